"""What each instruction takes and leaves: [5.6], [5.8]."""

import unittest

from judging import JudgeCase, only_in_init, places_of_stack, thing
from typegate.instructions import ARGUMENTS

INT, LONG, NULL = "int", "long", "null"
ALL = ["top", INT, LONG, NULL, "this", ("new", 3), thing("A"), thing("I"), thing("Gone"), thing("[I"), thing("[J"),
       thing("[Z"), thing("[B"), thing("[S"), thing("[C"), thing("[[I"), thing("[LA;"), thing("[LGone;")]
REFERENCES = [entry for entry in ALL if entry not in ("top", INT, LONG)]
READY = [entry for entry in REFERENCES if entry not in ("this", ("new", 3))]
ARRAYS = [NULL] + [entry for entry in READY if entry != NULL and entry[1][0] == "["]
OF_REFERENCES = [NULL, thing("[[I"), thing("[LA;"), thing("[LGone;")]

# For each instruction what it may take, the lowest first, and what it leaves.
TAKEN = {
    ("nop",): ([], []), ("aconst_null",): ([], [NULL]), ("iconst", 7): ([], [INT]), ("lconst", 7): ([], [LONG]),
    ("string", "x"): ([], [thing("String")]), ("class", "Gone"): ([], [thing("Class")]),
    ("ineg",): ([[INT]], [INT]), ("lneg",): ([[LONG]], [LONG]),
    ("i2l",): ([[INT]], [LONG]), ("l2i",): ([[LONG]], [INT]), ("i2b",): ([[INT]], [INT]), ("i2c",): ([[INT]], [INT]),
    ("i2s",): ([[INT]], [INT]), ("lcmp",): ([[LONG], [LONG]], [INT]),
    ("arraylength",): ([ARRAYS], [INT]), ("instanceof", "Gone"): ([READY], [INT]),
    ("checkcast", "Gone"): ([READY], [thing("Gone")]), ("checkcast", "[[I"): ([READY], [thing("[[I")]),
    ("monitorenter",): ([REFERENCES], []), ("monitorexit",): ([REFERENCES], []),
    ("newarray", "Z"): ([[INT]], [thing("[Z")]), ("newarray", "J"): ([[INT]], [thing("[J")]),
    ("anewarray", "Gone"): ([[INT]], [thing("[LGone;")]), ("anewarray", "[I"): ([[INT]], [thing("[[I")]),
    ("anewarray", "[[[[LA;"): ([[INT]], [thing("[[[[[LA;")]),
    ("multianewarray", "[[[I", 1): ([[INT]], [thing("[[[I")]),
    ("multianewarray", "[[[I", 3): ([[INT], [INT], [INT]], [thing("[[[I")]),
    ("iaload",): ([[NULL, thing("[I")], [INT]], [INT]), ("laload",): ([[NULL, thing("[J")], [INT]], [LONG]),
    ("baload",): ([[NULL, thing("[B"), thing("[Z")], [INT]], [INT]), ("caload",): ([[NULL, thing("[C")], [INT]], [INT]),
    ("saload",): ([[NULL, thing("[S")], [INT]], [INT]),
    ("iastore",): ([[NULL, thing("[I")], [INT], [INT]], []), ("lastore",): ([[NULL, thing("[J")], [INT], [LONG]], []),
    ("bastore",): ([[NULL, thing("[B"), thing("[Z")], [INT], [INT]], []),
    ("castore",): ([[NULL, thing("[C")], [INT], [INT]], []), ("sastore",): ([[NULL, thing("[S")], [INT], [INT]], []),
    ("aastore",): ([OF_REFERENCES, [INT], READY], []),
}
for one in ("iadd", "isub", "imul", "idiv", "irem", "iand", "ior", "ixor", "ishl", "ishr", "iushr"):
    TAKEN[one,] = ([[INT], [INT]], [INT])
for one in ("ladd", "lsub", "lmul", "ldiv", "lrem", "land", "lor", "lxor"):
    TAKEN[one,] = ([[LONG], [LONG]], [LONG])
for one in ("lshl", "lshr", "lushr"):
    TAKEN[one,] = ([[LONG], [INT]], [LONG])

JUMPS = {word: [[INT]] for word in ("ifeq", "ifne", "iflt", "ifge", "ifgt", "ifle")}
for one in ("if_icmpeq", "if_icmpne", "if_icmplt", "if_icmpge", "if_icmpgt", "if_icmple"):
    JUMPS[one] = [[INT], [INT]]
JUMPS.update({"if_acmpeq": [REFERENCES] * 2, "if_acmpne": [REFERENCES] * 2, "ifnull": [REFERENCES],
              "ifnonnull": [REFERENCES], "goto": [], "switch": [[INT]]})


class Taken(JudgeCase):
    def test_right_entries(self):
        for row, (sorts, left) in TAKEN.items():
            if not sorts:
                self.leaves(left, row, [])
                self.leaves([LONG, "top"] + left, row, [LONG, "top"])
            for place, sort in enumerate(sorts):
                for entry in sort:
                    stack = [one[0] for one in sorts]
                    stack[place] = entry
                    self.leaves(left, row, stack)
                    self.leaves([LONG, "top"] + left, row, [LONG, "top"] + stack)

    def test_others(self):
        for row, (sorts, _) in TAKEN.items():
            for place, sort in enumerate(sorts):
                for entry in ALL:
                    if entry not in sort:
                        stack = [one[0] for one in sorts]
                        stack[place] = entry
                        self.word("sort", row, stack)

    def test_fewer(self):
        for row, (sorts, _) in TAKEN.items():
            for many in range(len(sorts)):
                self.word("depth", row, [one[0] for one in sorts][len(sorts) - many:])
                self.word("depth", row, ["top"] * many)

    def test_full(self):
        for row, (sorts, left) in TAKEN.items():
            stack = [INT] + [one[0] for one in sorts]
            behind = places_of_stack([INT] + left)
            room = places_of_stack(stack)
            if behind > room:
                self.word(None, row, stack, room=behind)
                self.word("full", row, stack, room=behind - 1)
                self.word("full", row, stack, room=room)
            else:
                self.word(None, row, stack, room=room)

    def test_sort_goes_ahead_of_full(self):
        self.word("sort", ("i2l",), [thing("A")], room=1)
        self.word("full", ("i2l",), [INT], room=1)

    def test_every_instruction_is_looked_at(self):
        told = {row[0] for row in TAKEN} | set(JUMPS)
        others = set("iload lload aload istore lstore astore iinc getstatic putstatic getfield putfield invokevirtual"
                     " invokespecial invokestatic invokeinterface invokespecial_i invokestatic_i new aaload athrow pop pop2"
                     " dup dup_x1 dup_x2 dup2 dup2_x1 dup2_x2 swap ireturn lreturn areturn return".split())
        self.assertEqual(told | others, set(ARGUMENTS))


class Jumps(JudgeCase):
    def jump(self, expected, word, stack, behind):
        row = ("switch", ((1, 3),), 2) if word == "switch" else (word, 2)
        name = only_in_init(*stack)
        rows = [("goto", 0), row, ("return",), ("new", "A"), ("return",)]
        frames = [(0, ["this"] if name == "<init>" else [], []), (1, [], stack), (2, [], behind), (3, [], behind)]
        self.fault(expected, rows, frames, name=name)

    def test_right_entries(self):
        for word, sorts in JUMPS.items():
            for place, sort in enumerate(sorts):
                for entry in sort:
                    stack = [one[0] for one in sorts]
                    stack[place] = entry
                    self.jump(None, word, [LONG] + stack, [LONG])

    def test_others(self):
        for word, sorts in JUMPS.items():
            for place, sort in enumerate(sorts):
                for entry in [one for one in ALL if one not in sort]:
                    stack = [one[0] for one in sorts]
                    stack[place] = entry
                    self.jump((1, "sort"), word, stack, [])

    def test_fewer(self):
        for word, sorts in JUMPS.items():
            if sorts:
                self.jump((1, "depth"), word, ["top"] * (len(sorts) - 1), [])

    def test_the_frame_at_the_target(self):
        for word, sorts in JUMPS.items():
            stack = [one[0] for one in sorts]
            self.jump((1, "goal"), word, stack, [INT])
            self.jump(None, word, [INT] + stack, [INT])


class Locals(JudgeCase):
    SORTS = {"i": [INT], "l": [LONG], "a": REFERENCES}

    def test_loads(self):
        for letter, sort in self.SORTS.items():
            for entry in ALL:
                for at in (0, 3):
                    places = ["top"] * at + [entry]
                    if entry == "this" and letter == "a":
                        # The flag is set, and nothing but the return behind is wrong.
                        rows, frames = self.at_one(("aload", at), places, [INT], True)
                        self.fault((2, "raw"), rows, frames, name="<init>")
                    elif entry in sort:
                        self.leaves([INT, entry], (letter + "load", at), [INT], places, places)
                    else:
                        self.word("sort", (letter + "load", at), [], places)

    def test_loads_of_the_second_place_of_a_long(self):
        for letter in "ila":
            self.word("sort", (letter + "load", 1), [], [LONG])

    def test_stores(self):
        for letter, sort in self.SORTS.items():
            for entry in ALL:
                if entry in sort:
                    told = ["top", "top", entry] + (["top"] if entry == LONG else [])
                    self.leaves([LONG], (letter + "store", 2), [LONG, entry], [], told)
                else:
                    self.word("sort", (letter + "store", 2), [entry])
            self.word("depth", (letter + "store", 2), [])

    def test_stores_over_longs(self):
        # The locals ahead and behind, as all their places: a long hit in its first place, and in its second one.
        self.leaves([], ("istore", 1), [INT], [INT, LONG, INT], [INT, INT, "top", INT])
        self.leaves([], ("istore", 2), [INT], [INT, LONG, INT], [INT, "top", INT, INT])
        self.leaves([], ("istore", 3), [INT], [INT, LONG, NULL], [INT, LONG, "top", INT])
        self.leaves([], ("astore", 0), [NULL], [LONG, LONG], [NULL, "top", LONG, "top"])
        self.leaves([], ("astore", 1), [NULL], [LONG, LONG], ["top", NULL, LONG, "top"])
        self.leaves([], ("lstore", 0), [LONG], [INT, LONG, INT], [LONG, "top", "top", INT])
        self.leaves([], ("lstore", 1), [LONG], [LONG, LONG, INT], ["top", LONG, "top", "top", INT])
        self.leaves([], ("lstore", 1), [LONG], [INT, LONG, INT], [INT, LONG, "top", INT])
        self.leaves([], ("lstore", 2), [LONG], [INT, LONG, INT], [INT, "top", LONG, "top"])
        self.leaves([], ("lstore", 1), [LONG], [INT, INT, INT, INT], [INT, LONG, "top", INT])

    def test_places_beyond(self):
        for letter, entry, many in (("i", INT, 1), ("l", LONG, 2), ("a", NULL, 1)):
            for at, expected in ((9 - many, None), (10 - many, "local"), (255, "local")):
                self.word(expected, (letter + "store", at), [entry])
                self.word("sort" if expected is None else expected, (letter + "load", at), [])
                if expected is not None:
                    self.word("local", (letter + "store", at), [])
                    self.word("local", (letter + "store", at), ["top"])
        self.word("local", ("iinc", 9, 1), [])

    def test_iinc(self):
        self.leaves([LONG], ("iinc", 2, -5), [LONG], [INT, INT, INT], [INT, INT, INT])
        for entry in [one for one in ALL if one != INT]:
            self.word("sort", ("iinc", 2, 1), [], ["top", "top", entry])

    def test_full(self):
        self.word("full", ("iload", 0), [INT], [INT], room=1)
        self.word("full", ("lload", 0), [INT], [LONG], room=2)
        self.word(None, ("lload", 0), [INT], [LONG], room=3)
        self.word("full", ("aload", 0), [], [NULL], room=0)


class Arrays(JudgeCase):
    def test_aaload(self):
        for entry, left in ((NULL, NULL), (thing("[LGone;"), thing("Gone")), (thing("[[LA;"), thing("[LA;")),
                            (thing("[[I"), thing("[I"))):
            self.leaves([left], ("aaload",), [entry, INT])
        for entry in [one for one in ALL if one not in OF_REFERENCES]:
            self.word("sort", ("aaload",), [entry, INT])
        for entry in [one for one in ALL if one != INT]:
            self.word("sort", ("aaload",), [NULL, entry])
        self.word("depth", ("aaload",), [INT])
        self.word("depth", ("aaload",), [])

    def test_aastore_does_not_look_at_what_the_array_holds(self):
        self.leaves([], ("aastore",), [thing("[LA;"), INT, thing("[I")])


class New(JudgeCase):
    def test_it(self):
        self.leaves([LONG, ("new", 1)], ("new", "Gone"), [LONG])
        self.leaves([("new", 3), ("new", 1)], ("new", "A"), [("new", 3)], [("new", 3), INT], [("new", 3), INT])
        self.word("full", ("new", "A"), [INT], room=1)

    def test_locals_that_have_it(self):
        self.leaves([("new", 1)], ("new", "A"), [], [("new", 1), INT, ("new", 1), ("new", 3)],
                    ["top", INT, "top", ("new", 3)])

    def test_twice(self):
        self.word("twice", ("new", "A"), [("new", 1)])
        self.word("twice", ("new", "A"), [("new", 1), INT, LONG])
        self.word("twice", ("new", "A"), [("new", 1)], room=1)


class Throws(JudgeCase):
    def test_athrow(self):
        for name in ("Throwable", "Error", "NullPointerException"):
            self.word(None, ("athrow",), [LONG, thing(name)])
        self.word(None, ("athrow",), [NULL])
        for entry in ["top", INT, LONG, "this", ("new", 3), thing("A"), thing("I"), thing("[I"), thing("Object")]:
            self.word("sort", ("athrow",), [entry])
        self.word("depth", ("athrow",), [])
        self.word("NoClassDefFoundError", ("athrow",), [thing("Gone")])


class Returns(JudgeCase):
    def word(self, expected, row, stack, places=(), result="V"):
        name = only_in_init(*stack, *places)
        rows = [("goto", 0), row, ("new", "A"), ("goto", 3)]
        frames = [(0, ["this"] if name == "<init>" else [], []), (1, places, stack), (2, [], []), (3, [], ["top"])]
        expected = None if expected is None else (1, expected)
        self.fault(expected, rows, [*frames], name=name, descriptor="()" + result)

    def test_numbers(self):
        for result in ("Z", "B", "S", "C", "I"):
            self.word(None, ("ireturn",), [LONG, INT], result=result)
            self.word("sort", ("lreturn",), [LONG], result=result)
            self.word("sort", ("areturn",), [NULL], result=result)
            self.word("sort", ("return",), [], result=result)
        self.word(None, ("lreturn",), [INT, LONG], result="J")
        for result in ("J", "V", "LA;", "[I"):
            self.word("sort", ("ireturn",), [INT], result=result)
        for result in ("V", "LA;", "[J", "I"):
            self.word("sort", ("lreturn",), [LONG], result=result)
        for entry in [one for one in ALL if one not in ("this", ("new", 3))]:
            if entry != INT:
                self.word("sort", ("ireturn",), [entry], result="I")
            if entry != LONG:
                self.word("sort", ("lreturn",), [entry], result="J")
        for word in ("ireturn", "lreturn", "areturn"):
            self.word("depth", (word,), [], result="V")

    def test_references(self):
        for entry, result in ((thing("A"), "LA;"), (thing("A"), "LP;"), (NULL, "LGone;"), (thing("[I"), "LObject;"),
                              (thing("Object"), "LI;"), (thing("[LA;"), "[LP;"), (thing("Gone"), "LGone;")):
            self.word(None, ("areturn",), [entry], result=result)
        for entry, result in ((thing("P"), "LA;"), (INT, "LA;"), ("top", "LA;"), (("new", 2), "LA;"), (thing("[I"), "LI;"),
                              (NULL, "V"), (thing("A"), "V"), (INT, "V"), (LONG, "V"), (thing("[LP;"), "[LA;"), (NULL, "I"),
                              (thing("A"), "J"), (INT, "I"), (LONG, "J")):
            self.word("sort", ("areturn",), [entry], result=result)
        self.word("NoClassDefFoundError", ("areturn",), [thing("A")], result="LGone;")
        self.word("NoClassDefFoundError", ("areturn",), [thing("Gone")], result="LA;")

    def test_nothing(self):
        self.word(None, ("return",), [LONG, "top"])
        for result in ("I", "J", "LA;"):
            self.word("sort", ("return",), [], result=result)

    def test_raw(self):
        self.word("raw", ("return",), [], ["this"])
        self.word("sort", ("areturn",), ["this"], ["this"])


class Stack(JudgeCase):
    """The instructions that move entries; a and b are entries of one place, w takes two."""

    # What stands on the stack ahead, and behind.
    MOVED = {
        "pop": [("a", "")], "pop2": [("ab", ""), ("w", "")], "swap": [("ab", "ba")],
        "dup": [("a", "aa")], "dup_x1": [("ab", "bab")],
        "dup_x2": [("abc", "cabc"), ("wa", "awa")],
        "dup2": [("ab", "abab"), ("w", "ww")],
        "dup2_x1": [("abc", "bcabc"), ("aw", "waw")],
        "dup2_x2": [("abcd", "cdabcd"), ("abw", "wabw"), ("wab", "abwab"), ("wv", "vwv")],
    }
    ENTRIES = {"a": thing("A"), "b": INT, "c": NULL, "d": thing("[I"), "w": LONG, "v": LONG}

    def stack(self, letters):
        return [self.ENTRIES[letter] for letter in letters]

    def test_right_ones(self):
        for word, told in self.MOVED.items():
            for ahead, behind in told:
                self.leaves(self.stack(behind), (word,), self.stack(ahead))
                self.leaves(["top"] + self.stack(behind), (word,), ["top"] + self.stack(ahead))

    def test_objects_that_are_not_ready(self):
        for entry in ("this", ("new", 3)):
            self.leaves([entry, INT, entry], ("dup_x1",), [INT, entry])
            self.leaves([entry, INT], ("swap",), [INT, entry])
            self.leaves([], ("pop2",), [entry, entry])
            self.leaves([], ("pop",), [entry])

    def test_full(self):
        for word, told in self.MOVED.items():
            for ahead, behind in told:
                room = max(places_of_stack(self.stack(ahead)), places_of_stack(self.stack(behind)))
                self.word(None, (word,), self.stack(ahead), room=room)
                if len(behind) > len(ahead):
                    self.word("full", (word,), self.stack(ahead), room=room - 1)

    def words(self, word, told):
        for stack, expected in told:
            self.word(expected, (word,), ["top" if letter == "t" else self.ENTRIES[letter] for letter in stack])

    def test_pop_and_dup(self):
        for word in ("pop", "dup"):
            self.words(word, [("", "depth"), ("w", "sort"), ("t", "sort"), ("aw", "sort")])

    def test_swap_and_dup_x1(self):
        for word in ("swap", "dup_x1"):
            self.words(word, [("", "depth"), ("a", "depth"), ("w", "depth"), ("t", "depth"), ("aw", "sort"), ("wa", "sort"),
                              ("ta", "sort"), ("at", "sort"), ("ww", "sort")])

    def test_pop2_and_dup2(self):
        for word in ("pop2", "dup2"):
            self.words(word, [("", "depth"), ("a", "depth"), ("t", "depth"), ("wa", "sort"), ("ta", "sort"), ("at", "sort"),
                              ("aw", None), ("tw", None)])

    def test_dup_x2(self):
        self.words("dup_x2", [("", "depth"), ("w", "sort"), ("t", "sort"), ("a", "depth"), ("ba", "depth"), ("ta", "depth"),
                              ("wba", "sort"), ("tba", "sort"), ("bta", "sort"), ("wa", None), ("twa", None)])

    def test_dup2_x1(self):
        self.words("dup2_x1", [("", "depth"), ("a", "depth"), ("ba", "depth"), ("w", "depth"), ("ww", "sort"), ("tw", "sort"),
                               ("wba", "sort"), ("tba", "sort"), ("wa", "sort"), ("ta", "sort"), ("at", "sort"),
                               ("aw", None)])

    def test_dup2_x2(self):
        self.words("dup2_x2", [("", "depth"), ("a", "depth"), ("ba", "depth"), ("w", "depth"), ("aw", "depth"),
                               ("cba", "depth"), ("tba", "depth"), ("tw", "depth"), ("wcba", "sort"), ("tcba", "sort"),
                               ("ctba", "sort"), ("waw", "sort"), ("taw", "sort"), ("wba", None), ("ww", None)])


if __name__ == "__main__":
    unittest.main()
