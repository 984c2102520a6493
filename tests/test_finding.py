"""Where frames are needed, and what is found for them: [6.1] to [6.3]."""

import random
import unittest

from helpers import code, face, file, odd_things
from judging import JudgeCase, MISSING, method, thing
from typegate.classes import Code, Uncut
from typegate.errors import NoCode, NoFrames, NoMethod, NotDefined, NotFound
from typegate.finding import frames_found, needed
from typegate.judge import fault_of
from typegate.types import fits
from typegate.worlds import World

INT, LONG, NULL = "int", "long", "null"
ERROR = thing("Throwable")


class Needed(JudgeCase):
    def told(self, expected, rows, handlers=()):
        self.assertEqual(needed(Code(1, 1, rows, handlers, [])), expected)

    def test_jumps(self):
        self.told([], [("return",)])
        self.told([0], [("goto", 0)])
        for word in ("ifeq", "if_icmplt", "if_acmpeq", "ifnull"):
            self.told([2], [("nop",), (word, 2), ("nop",)])
            self.told([0], [("nop",), (word, 0), ("nop",)])
        self.told([1, 3], [("goto", 3), ("nop",), ("nop",), ("nop",)])
        self.told([1, 2, 3, 4], [("switch", ((1, 4), (2, 3)), 2), ("nop",), ("nop",), ("nop",), ("nop",)])

    def test_behind_the_last_ones(self):
        for row in (("goto", 0), ("switch", (), 0), ("athrow",), ("ireturn",), ("lreturn",), ("areturn",), ("return",)):
            jump = [0] if len(row) > 1 else []
            self.told(jump + [1], [row, ("nop",), ("nop",)])
            self.told(jump + [1], [row, ("nop",)])
            self.told(jump, [("nop",), row])
        for row in (("nop",), ("monitorexit",), ("invokestatic", "A", "m", "()V"), ("ifeq", 0)):
            self.told([0] if row[0] == "ifeq" else [], [row, ("nop",)])

    def test_handlers(self):
        self.told([2, 3], [("nop",), ("nop",), ("nop",), ("nop",)], [(0, 1, 3, None), (1, 2, 2, "A"), (0, 4, 3, None)])

    def test_each_once_and_ascending(self):
        self.told([1, 2, 5], [("goto", 5), ("goto", 2), ("ifeq", 1), ("ifeq", 5), ("nop",), ("nop",)], [(0, 1, 2, None)])

    def test_a_new_list(self):
        made = Code(1, 1, [("goto", 0)], [], [])
        needed(made).append(7)
        self.assertEqual(needed(made), [0])

    def test_no_codes(self):
        for thing_ in [one for one in odd_things() if not isinstance(one, Code)] + [None, 0, "", [], (), Uncut("map", 0)]:
            self.raises(NoCode, {}, needed, thing_)

    def test_indexes_that_do_not_exist(self):
        for rows, handlers in (([("goto", 0), ("nop",)], ()), ([("nop",), ("nop",)], [(0, 1, 1, None)])):
            made = Code(1, 1, rows, handlers, [])
            needed(made)
            made.rows = made.rows[:1] if handlers else (("goto", 2), ("nop",))
            self.raises(NoCode, {}, needed, made)

    def test_by_name(self):
        self.assertEqual(needed(code=Code(1, 1, [("goto", 0)], [], [])), [0])


class FindCase(JudgeCase):
    def world_of(self, rows, handlers=(), room=9, places=4, name="m", descriptor="()V", flags=(), frames=(), **more):
        return self.world_for((name, descriptor, flags, Code(room, places, rows, handlers, frames)), **more)

    def finds(self, expected, rows, handlers=(), name="m", descriptor="()V", strictly=True, **more):
        world = self.world_of(rows, handlers, name=name, descriptor=descriptor, **more)
        found = frames_found(world, ("a", "A"), name, descriptor)
        self.assertEqual(found, expected)
        self.assertIsNone(fault_of(world, ("a", "A"), name, descriptor, found, loose=True))
        if strictly:
            self.assertIsNone(fault_of(world, ("a", "A"), name, descriptor, found))

    def none(self, index, word, rows, handlers=(), name="m", descriptor="()V", **more):
        world = self.world_of(rows, handlers, name=name, descriptor=descriptor, **more)
        self.raises(NoFrames, {"index": index, "word": word}, frames_found, world, ("a", "A"), name, descriptor)


class Found(FindCase):
    def test_the_example(self):
        rows = [("iload", 0), ("ifge", 5), ("iload", 0), ("ineg",), ("ireturn",), ("iload", 0), ("ireturn",)]
        self.finds(((5, (INT,), ()),), rows, descriptor="(I)I", flags=["static"])

    def test_none_are_needed(self):
        self.finds((), [("return",)])

    def test_as_they_are_told(self):
        """Trailing "top" left out, the second place of a long too; lists as tuples."""
        self.finds(((0, (thing("A"),), ()),), [("goto", 0)])
        self.finds(((0, (), ()),), [("goto", 0)], flags=["static"])
        self.finds(((0, (thing("A"), LONG), ()),), [("goto", 0)], descriptor="(J)V")
        self.finds(((2, ("top", "top", INT), ()),), [("iconst", 1), ("istore", 2), ("goto", 2)], flags=["static"])
        self.finds(((2, (LONG, LONG), (LONG, INT)),), [("lload", 0), ("iconst", 1), ("goto", 2)], flags=["static"],
                   descriptor="(JJ)V")

    def test_branches_that_meet(self):
        for first, second, least in (
                (("aconst_null",), ("aload", 0), thing("A")), (("aload", 0), ("aload", 0), thing("A")),
                (("aconst_null",), ("aconst_null",), NULL), (("iconst", 1), ("iconst", 2), INT),
                (("lconst", 1), ("lconst", 2), LONG), (("iconst", 1), ("aconst_null",), "top"),
                (("aload", 0), ("string", "x"), thing("Object")), (("class", "A"), ("string", "x"), thing("Object")),
                (("aload", 0), ("aload", 1), thing("P")), (("aload", 2), ("aload", 1), thing("Q")),
                (("aload", 0), ("aload", 3), thing("Object"))):
            rows = [("aconst_null",), ("ifnull", 4), first, ("goto", 5), second, ("goto", 5)]
            places = (thing("A"), thing("P"), thing("Q"), thing("I"))
            self.finds(((4, places, ()), (5, places, (least,))), rows, descriptor="(LP;LQ;LI;)V")

    def test_locals_that_meet(self):
        rows = [("aconst_null",), ("ifnull", 5), ("lconst", 1), ("lstore", 1), ("goto", 7), ("iconst", 1), ("istore", 1),
                ("goto", 7)]
        own = (thing("A"),)
        self.finds(((5, own, ()), (7, own, ())), rows)
        rows[5:7] = [("lconst", 1), ("lstore", 2)]
        self.finds(((5, own, ()), (7, own, ())), rows)
        rows[5:7] = [("lconst", 1), ("lstore", 1)]
        self.finds(((5, own, ()), (7, (*own, LONG), ())), rows)
        rows[2:4] = [("aconst_null",), ("astore", 1)]
        rows[5:7] = [("aload", 0), ("astore", 1)]
        self.finds(((5, own, ()), (7, (*own, *own), ())), rows)

    def test_loops(self):
        rows = [("aload", 0), ("astore", 1), ("aload", 1), ("ifnull", 6), ("string", "x"), ("astore", 1), ("goto", 2)]
        self.finds(((2, (thing("A"), thing("Object")), ()), (6, (thing("A"), thing("Object")), ())), rows)
        rows = [("iconst", 0), ("istore", 1), ("iload", 1), ("ifeq", 6), ("aconst_null",), ("astore", 1), ("goto", 2)]
        self.none(2, "sort", rows)

    def test_stacks_that_meet(self):
        for first, second in ((("lconst", 1), ("iconst", 1)), (("iconst", 1), ("lconst", 1)), (("lconst", 1), ("aload", 0)),
                              (("nop",), ("iconst", 1)), (("iconst", 1), ("nop",))):
            rows = [("aconst_null",), ("ifnull", 4), first, ("goto", 5), second, ("goto", 5)]
            self.none(4, "frame", rows)

    def test_the_word_is_told_where_the_frame_comes_from(self):
        rows = [("aconst_null",), ("ifnull", 5), ("iconst", 1), ("nop",), ("goto", 5), ("return",)]
        self.none(4, "frame", rows)
        rows = [("aconst_null",), ("ifnull", 4), ("iconst", 1), ("nop",), ("return",)]
        self.none(3, "frame", rows)

    def test_switches(self):
        rows = [("iconst", 1), ("switch", ((1, 4), (9, 2)), 3), ("nop",), ("return",), ("return",)]
        self.finds(tuple((k, (thing("A"),), ()) for k in (2, 3, 4)), rows)

    def test_told_ones_are_not_looked_at(self):
        rows = [("goto", 2), ("return",), ("return",)]
        self.none(1, "unreached", rows, frames=[(1, [], []), (2, [INT], [INT])])
        self.finds(((0, (thing("A"),), ()),), [("goto", 0)], frames=[(0, [INT] * 9, [])], places=3)


class Unreached(FindCase):
    def test_it(self):
        self.none(1, "unreached", [("return",), ("return",)])
        self.none(2, "unreached", [("goto", 1), ("goto", 0), ("iadd",), ("iadd",)])
        self.none(1, "unreached", [("goto", 3), ("nop",), ("iadd",), ("return",)])

    def test_other_words_go_ahead(self):
        self.none(3, "depth", [("goto", 3), ("nop",), ("nop",), ("pop",), ("return",)])

    def test_a_handler_reaches(self):
        self.finds(((1, (thing("A"),), (ERROR,)),), [("return",), ("athrow",)], [(0, 1, 1, None)])
        self.none(1, "unreached", [("return",), ("athrow",), ("return",)], [(1, 2, 1, None)])


class Wrong(FindCase):
    def test_words_of_the_rules(self):
        self.none(0, "depth", [("pop",), ("return",)])
        self.none(1, "sort", [("aconst_null",), ("ineg",), ("return",)])
        self.none(1, "full", [("iconst", 1), ("iconst", 1), ("return",)], room=1)
        self.none(0, "local", [("iload", 4), ("return",)])
        self.none(1, "sort", [("iconst", 1), ("ireturn",)])
        self.none(0, "raw", [("return",)], name="<init>")
        self.none(1, "special", [("aload", 0), ("invokespecial", "B", "m", "()V"), ("return",)])
        self.none(1, MISSING, [("aload", 0), ("putstatic", "A", "x", "LGone;"), ("return",)])

    def test_twice(self):
        # The stack grows from turn to turn, and the first thing that is wrong is the frame.
        self.none(1, "frame", [("new", "A"), ("goto", 0)])

    def test_end(self):
        self.none(0, "end", [("nop",)])
        self.none(1, "end", [("iconst", 1), ("ifeq", 0)])
        self.none(2, "end", [("iconst", 1), ("ifeq", 0), ("nop",)])

    def test_the_least_index_first(self):
        rows = [("aconst_null",), ("ifnull", 4), ("pop",), ("return",), ("pop",), ("return",)]
        self.none(2, "depth", rows)
        rows[2] = ("nop",)
        self.none(4, "depth", rows)

    def test_a_wrong_turn_is_found_later(self):
        # Only with what comes back the local is wrong.
        rows = [("iconst", 1), ("istore", 1), ("iinc", 1, 1), ("aconst_null",), ("astore", 1), ("goto", 2)]
        self.none(2, "sort", rows)

    def test_names_that_are_lost(self):
        rows = [("aconst_null",), ("ifnull", 4), ("aload", 1), ("goto", 5), ("aload", 2), ("goto", 5)]
        self.none(4, MISSING, rows, descriptor="(LA;LGone;)V")
        # What comes is looked for ahead of what is kept.
        self.none(4, MISSING, rows, descriptor="(LBad;LGone;)V")
        self.none(4, "ClassCircularityError", rows, descriptor="(LGone;LBad;)V")
        self.none(4, "ClassCircularityError", rows, descriptor="(LA;LBad;)V")
        self.finds(((4, (thing("A"), thing("Gone"), thing("Gone")), ()),
                    (5, (thing("A"), thing("Gone"), thing("Gone")), (thing("Gone"),))), rows, descriptor="(LGone;LGone;)V")

    def test_lengths_go_ahead_of_lost_names(self):
        # Two locals that are not the same meet, and so do two stacks.
        rows = [("aconst_null",), ("ifnull", 5), ("aload", 2), ("astore", 1), ("goto", 7), ("aconst_null",), ("nop",),
                ("goto", 7)]
        self.none(6, "frame", rows, descriptor="(LA;LGone;)V")
        rows[5:7] = [("nop",), ("nop",)]
        self.none(6, MISSING, rows, descriptor="(LA;LGone;)V")

    def test_a_long_goes_behind_lost_names(self):
        rows = [("aconst_null",), ("ifnull", 6), ("aload", 2), ("astore", 1), ("iconst", 1), ("goto", 8), ("lconst", 1),
                ("nop",), ("goto", 8)]
        self.none(7, MISSING, rows, descriptor="(LA;LGone;)V")
        self.none(7, "frame", rows, descriptor="(LA;LP;)V")


class Handlers(FindCase):
    def test_right_ones(self):
        rows = [("iconst", 1), ("istore", 1), ("return",), ("athrow",)]
        own = (thing("A"),)
        self.finds(((3, own, (ERROR,)),), rows, [(0, 3, 3, None)])
        self.finds(((3, (*own, INT), (thing("Error"),)),), rows, [(2, 3, 3, "Error")])
        self.finds(((3, own, (ERROR,)),), rows, [(0, 1, 3, "Error"), (1, 2, 3, "Exception")])

    def test_kinds(self):
        rows = [("return",), ("athrow",)]
        self.none(0, "catch", rows, [(0, 1, 1, "A")])
        self.none(0, MISSING, rows, [(0, 1, 1, "Gone")])

    def test_in_order(self):
        rows = [("iconst", 1), ("ifeq", 4), ("iconst", 1), ("goto", 4), ("return",), ("athrow",)]
        self.none(2, "frame", rows, [(2, 3, 4, None), (2, 3, 5, "A")])
        self.none(2, "catch", rows, [(2, 3, 5, "A"), (2, 3, 4, None)])

    def test_handlers_go_ahead_of_the_rule(self):
        self.none(0, "catch", [("pop",), ("athrow",)], [(0, 1, 1, "A")])

    def test_no_room_for_what_is_caught(self):
        """A code without a place for it is right with no frames at all, so none are found."""
        self.none(1, "full", [("return",), ("athrow",)], [(0, 1, 1, None)], room=0)
        self.none(1, "full", [("return",), ("astore", 0), ("return",)], [(0, 1, 1, None)], room=0)
        self.none(1, "sort", [("return",), ("ineg",), ("return",)], [(0, 1, 1, None)], room=0)


class NotReady(FindCase):
    def test_this(self):
        rows = [("iload", 1), ("ifeq", 2), ("aload", 0), ("invokespecial", "P", "<init>", "()V"), ("return",)]
        self.finds(((2, ("this", INT), ()),), rows, name="<init>", descriptor="(I)V")

    def test_flags_that_meet(self):
        rows = [("iload", 1), ("ifeq", 4), ("aload", 0), ("invokespecial", "P", "<init>", "()V"), ("return",)]
        self.none(3, "frame", rows, name="<init>", descriptor="(I)V")

    def test_the_flag_without_this(self):
        rows = [("aconst_null",), ("astore", 0), ("iload", 1), ("ifeq", 4), ("aconst_null",), ("athrow",)]
        self.none(3, "frame", rows, name="<init>", descriptor="(I)V")
        # Where no frame is needed it may be so.
        self.finds((), [("aconst_null",), ("astore", 0), ("aconst_null",), ("athrow",)], name="<init>")

    def test_this_is_lost_where_branches_meet(self):
        rows = [("iload", 1), ("ifeq", 4), ("aconst_null",), ("astore", 0), ("aconst_null",), ("athrow",)]
        self.none(3, "frame", rows, name="<init>", descriptor="(I)V")

    def test_a_handler_over_the_call_of_another_init(self):
        rows = [("aload", 0), ("invokespecial", "P", "<init>", "()V"), ("return",), ("athrow",)]
        self.none(1, "frame", rows, [(1, 2, 3, None)], name="<init>")
        self.finds(((3, ("this",), (ERROR,)),), rows, [(0, 1, 3, None)], name="<init>")

    def test_new_objects(self):
        rows = [("new", "A"), ("dup",), ("iload", 1), ("ifeq", 5), ("nop",), ("invokespecial", "A", "<init>", "()V"),
                ("return",)]
        own = (thing("A"), INT)
        self.finds(((5, own, (("new", 0), ("new", 0))),), rows, descriptor="(I)V")

    def test_new_objects_that_meet(self):
        rows = [("iload", 1), ("ifeq", 4), ("new", "A"), ("goto", 5), ("new", "A"), ("goto", 5)]
        self.finds(((4, (thing("A"), INT), ()), (5, (thing("A"), INT), ("top",))), rows, descriptor="(I)V")

    def test_a_handler_over_the_init_of_a_new_object(self):
        rows = [("new", "A"), ("astore", 1), ("aload", 1), ("invokespecial", "A", "<init>", "()V"), ("return",), ("athrow",)]
        self.finds(((5, (thing("A"),), (ERROR,)),), rows, [(3, 4, 5, None)])
        self.finds(((5, (thing("A"), ("new", 0)), (ERROR,)),), rows, [(2, 3, 5, None)])


class Loosely(FindCase):
    def test_arrays_where_interfaces_are_asked_for(self):
        rows = [("iconst", 1), ("newarray", "I"), ("goto", 3), ("areturn",)]
        told = (3, (thing("A"),), (thing("[I"),))
        self.finds((told,), rows, descriptor="()LI;", strictly=False)
        world = self.world_of(rows, descriptor="()LI;")
        self.assertEqual(fault_of(world, ("a", "A"), "m", "()LI;", [told]), (3, "sort"))
        self.assertIsNone(fault_of(world, ("a", "A"), "m", "()LI;", [(3, [], [thing("Object")])]))

    def test_arrays_where_other_classes_are_asked_for(self):
        self.none(2, "sort", [("iconst", 1), ("newarray", "I"), ("areturn",)], descriptor="()LP;")


class Arguments(FindCase):
    def test_errors(self):
        world = World({"a": {"A": file(methods=[method("m"), method("u", body=Uncut("map", 0)), method("n", "native")]),
                             "Lost": file("Lost", "Gone")}})
        self.raises(NotDefined, {"cls": ("a", "B")}, frames_found, world, ("a", "B"), "m", "()V")
        self.raises(NotFound, {"name": "Lost", "word": MISSING}, frames_found, world, ("a", "Lost"), "m", "()V")
        for name in ("u", "n", "o", None, 3):
            self.raises(NoMethod, {}, frames_found, world, ("a", "A"), name, "()V")
        self.assertEqual(frames_found(descriptor="()V", method="m", cls=("a", "A"), world=world), ())


class Facts(JudgeCase):
    """What [6.3] says of the frames that are found, for codes that are put together by chance."""

    # Each leaves the stack as it was, but for the last three; a jump with None leads to the beginning of any.
    PARTS = [
        [("aconst_null",), ("astore", 1)], [("aload", 0), ("astore", 1)], [("aload", 1), ("astore", 0)],
        [("aload", 0), ("ifnull", None)], [("iload", 2), ("ifeq", None)], [("aload", 1), ("ifnull", None)],
        [("iload", 2), ("ifeq", None)], [("goto", None)], [("iinc", 2, 1)], [("lconst", 1), ("lstore", 1)],
        [("iconst", 1), ("istore", 1)], [("iconst", 1), ("newarray", "I"), ("astore", 1)],
        [("iconst", 1), ("anewarray", "A"), ("astore", 1)], [("iconst", 1), ("anewarray", "I"), ("astore", 1)],
        [("new", "P"), ("astore", 1)], [("aload", 1), ("invokespecial", "P", "<init>", "()V")],
        [("aload", 0), ("invokespecial", "P", "<init>", "()V")], [("aload", 1), ("invokestatic", "I", "x", "(LP;)V")],
        [("aload", 1), ("invokestatic", "I", "x", "(LI;)V")], [("aload", 1), ("invokestatic", "I", "x", "([LI;)V")],
        [("aload", 1), ("iconst", 0), ("aaload",), ("astore", 1)], [("aload", 1), ("checkcast", "A"), ("astore", 1)],
        [("aload", 1), ("athrow",)], [("aload", 0), ("areturn",)], [("aload", 1)], [("aload", 0)], [("astore", 1)],
    ]
    ENTRIES = ["top", INT, LONG, NULL, thing("A"), thing("P"), thing("Object"), thing("I"), thing("[I"), thing("[LP;"),
               thing("[LI;"), thing("[LObject;")]

    def chance(self, source):
        """A method that is put together of some parts."""
        name = source.choice(["m", "m", "<init>"])
        descriptor = "(LI;I)V" if name == "<init>" else source.choice(["(LP;I)V", "(LP;I)LA;", "([LA;I)LI;", "(LB;I)LObject;"])
        parts = [source.choice(self.PARTS) for _ in range(source.choice([2, 3, 4, 5]))]
        parts.append(source.choice([[("return",)], [("goto", None)], [("aload", 1), ("areturn",)], [("aload", 0), ("areturn",)]]))
        begins = [sum(len(part) for part in parts[:k]) for k in range(len(parts))]
        rows = [(row[0], source.choice(begins)) if row[-1] is None else row for part in parts for row in part]
        handlers = [(0, source.choice(begins[1:]), source.choice(begins), None)] if source.random() < 0.2 else []
        return (name, descriptor, ("public",), Code(4, 3, rows, handlers, []))

    def spread(self, entries):
        told = []
        for entry in entries:
            told += [entry, "top"] if entry == LONG else [entry]
        return told + ["top"] * (3 - len(told))

    def test_found_frames_are_right(self):
        source = random.Random(5)
        many = 0
        for _ in range(2500):
            told = self.chance(source)
            world = self.world_for(told)
            try:
                found = frames_found(world, ("a", "A"), told[0], told[1])
            except NoFrames:
                continue
            self.assertEqual([frame[0] for frame in found], needed(told[3]))
            self.assertIsNone(fault_of(world, ("a", "A"), told[0], told[1], found, loose=True), told[3].rows)
            many += len(found) > 0
        self.assertGreater(many, 120)

    def test_other_frames_are_above_the_found_ones(self):
        source = random.Random(6)
        many = 0
        for _ in range(2500):
            told = self.chance(source)
            places = needed(told[3])
            if len(places) != 1 or told[0] == "<init>":
                continue
            world = self.world_for(told)
            try:
                found = frames_found(world, ("a", "A"), told[0], told[1])
            except NoFrames as missing:
                found = missing.word
            for _ in range(12):
                stack = [] if source.random() < 0.5 else [source.choice(self.ENTRIES)]
                frame = (places[0], [source.choice(self.ENTRIES) for _ in range(source.randrange(2))], stack)
                if fault_of(world, ("a", "A"), told[0], told[1], [frame]) is None and found != "unreached":
                    self.assertIsInstance(found, tuple, (told[3].rows, frame))
                    pairs = list(zip(self.spread(found[0][1]), self.spread(frame[1]))) + list(zip(found[0][2], frame[2]))
                    for one, other in pairs:
                        self.assertTrue(fits(world, "a", one, other, loose=True), (told[3].rows, frame))
                    many += 1
        self.assertGreater(many, 60)


if __name__ == "__main__":
    unittest.main()
