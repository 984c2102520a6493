"""The machine's rows for objects, fields, arrays, casts and monitors: [10.3] to [10.5], [10.9] to [10.11], [10.13], [10.14]."""

import unittest

from helpers import face, file
from machining import HIGH, LOW, MachineCase, body, init, made, new
from typegate.machine import Machine
from typegate.worlds import World

MISSING = "NoClassDefFoundError"
ACCESS = "IllegalAccessError"
CHANGE = "IncompatibleClassChangeError"
NULL = "NullPointerException"
I, J, N = ("iconst", 5), ("lconst", 6), ("aconst_null",)
RAW = ("new", "A")
BITS = {"Z": lambda n: n & 1, "B": lambda n: (n + 128) % 256 - 128, "S": lambda n: (n + 32768) % 65536 - 32768,
        "C": lambda n: n % 65536, "I": lambda n: n}
NUMBERS = [0, 1, 2, -1, 127, 128, 255, 256, -128, -129, 32767, 32768, 65535, 65536, -32769, LOW, HIGH]


class Constants(MachineCase):
    def test_strings(self):
        machine, reference = self.kind_of(("base", "String"), [("string", "some text")])
        self.assertEqual(machine.held(reference), "some text")
        self.wrong("full", [("string", "x")] * 3, stack=2)

    def test_classes(self):
        for name, told in (("A", ("a", "A")), ("I", ("a", "I")), ("String", ("base", "String")), ("[I", ("base", "[I")),
                           ("[[LA;", ("a", "[[LA;"))):
            machine, reference = self.kind_of(("base", "Class"), [("class", name)])
            self.assertEqual(machine.held(reference), told)
        for name, word in (("Gone", MISSING), ("[LGone;", MISSING), ("p/Far", ACCESS)):
            self.throws(word, [("class", name)])


class New(MachineCase):
    def test_it(self):
        machine, reference = self.kind_of(("a", "A"), new("A"))
        self.assertEqual(reference, ("ref", 1))
        fields = machine.held(reference)
        self.assertEqual(fields, {("a", "A", name, descriptor): None if descriptor[0] in "L[" else 0 for name, descriptor in (
            ("f", "I"), ("l", "J"), ("r", "LA;"), ("b", "B"), ("z", "Z"), ("c", "C"), ("h", "S"), ("i", "LI;"), ("g", "LGone;"),
            ("a", "[LA;"))})
        self.assertIs(machine.is_raw(reference), False)

    def test_raw_ones(self):
        for row in (("areturn",),):
            self.wrong("raw", [RAW, row], descriptor="()LA;")
        self.ends([RAW])

    def test_what_is_asked(self):
        for name, word in (("Gone", MISSING), ("p/Far", ACCESS), ("I", "InstantiationError")):
            self.throws(word, [("new", name)])
        self.wrong("full", [RAW, RAW], stack=1)

    def test_fields_of_the_whole_line(self):
        rows = [*new("D"), ("areturn",)]
        world = self.world(rows, "()LObject;", more={
            "D": file("D", "E", fields=[("x", "I", (), None), ("s", "I", ("static",), None)], methods=[init("E")]),
            "E": file("E", fields=[("x", "I", (), None), ("y", "LD;", (), None)], methods=[init()])})
        machine = Machine(world)
        _, reference = machine.call("a", "A", "go", "()LObject;", [])
        self.assertEqual(machine.held(reference), {("a", "D", "x", "I"): 0, ("a", "E", "x", "I"): 0, ("a", "E", "y", "LD;"): None})


class Static(MachineCase):
    def test_numbers(self):
        self.gives(0, [("getstatic", "A", "s", "I")])
        self.gives(0, [("getstatic", "A", "t", "J")], result="J")
        self.gives(None, [("getstatic", "A", "u", "LA;")], result="LA;")
        self.gives(5, [I, ("putstatic", "A", "s", "I"), ("getstatic", "A", "s", "I")])
        self.gives(6, [J, ("putstatic", "A", "t", "J"), ("getstatic", "A", "t", "J")], result="J")
        machine = self.ends([*new("B"), ("putstatic", "A", "u", "LA;"), I, ("putstatic", "A", "s", "I")])
        self.assertEqual(machine.statics("a", "A"), {("a", "A", "s", "I"): 5, ("a", "A", "t", "J"): 0, ("a", "A", "u", "LA;"): ("ref", 1),
                                                     ("a", "A", "v", "B"): 0})

    def test_narrowing(self):
        for number in NUMBERS:
            self.gives(BITS["B"](number), [("iconst", number), ("putstatic", "A", "v", "B"), ("getstatic", "A", "v", "B")])

    def test_what_they_take(self):
        for put, name, descriptor, word in (
                ([N], "s", "I", "sort"), ([J], "s", "I", "sort"), ([I], "u", "LA;", "sort"), ([I, I], "t", "J", "sort"),
                ([RAW], "u", "LA;", "raw"), (new("C"), "u", "LA;", "kind"), ([("string", "x")], "u", "LA;", "kind"),
                ([], "s", "I", "few"), ([I], "t", "J", "few"), ([], "u", "LA;", "few")):
            self.wrong(word, put + [("putstatic", "A", name, descriptor)])

    def test_what_is_asked_goes_behind_few_and_ahead_of_the_rest(self):
        self.wrong("few", [("putstatic", "Gone", "s", "I")])
        self.throws(MISSING, [N, ("putstatic", "Gone", "s", "I")])
        for row, word in ((("getstatic", "A", "f", "I"), CHANGE), (("getstatic", "A", "none", "I"), "NoSuchFieldError"),
                          (("getstatic", "p/Far", "s", "I"), ACCESS)):
            self.throws(word, [row])
        self.wrong("full", [("getstatic", "A", "t", "J")], stack=1)

    def test_of_a_parent(self):
        self.gives(5, [I, ("putstatic", "B", "s", "I"), ("getstatic", "A", "s", "I")])


class Fields(MachineCase):
    def test_numbers(self):
        for name, descriptor, put, told in (("f", "I", I, 5), ("l", "J", J, 6), ("r", "LA;", N, None)):
            result = "LA;" if descriptor == "LA;" else descriptor
            rows = [*new("A"), ("astore", 1), ("aload", 1), put, ("putfield", "A", name, descriptor), ("aload", 1),
                    ("getfield", "A", name, descriptor)]
            self.gives(told, rows, result=result)

    def test_narrowing(self):
        for name, descriptor in (("z", "Z"), ("b", "B"), ("c", "C"), ("h", "S"), ("f", "I")):
            for number in NUMBERS:
                rows = [*new("A"), ("dup",), ("iconst", number), ("putfield", "A", name, descriptor), ("getfield", "A", name, descriptor)]
                self.gives(BITS[descriptor](number), rows)

    def test_null(self):
        self.throws(NULL, [N, ("getfield", "A", "f", "I")])
        self.throws(NULL, [N, I, ("putfield", "A", "f", "I")])
        # Behind what is wrong with the value.
        self.wrong("sort", [N, N, ("putfield", "A", "f", "I")])
        self.wrong("kind", [N, *new("C"), ("putfield", "A", "r", "LA;")])

    def test_what_getfield_takes(self):
        row = ("getfield", "A", "f", "I")
        for put, word in (([I], "sort"), ([J], "sort"), ([RAW], "raw"), (new("C"), "kind"), ([I, ("newarray", "I")], "kind"),
                          ([("string", "x")], "kind"), ([], "few")):
            self.wrong(word, put + [row])
        self.gives(0, [*new("B"), row])
        self.ends([*new("A"), ("getfield", "A", "l", "J")], stack=2)
        self.wrong("full", [*new("A"), ("astore", 1), N, ("aload", 1), ("getfield", "A", "l", "J")], stack=2)

    def test_what_putfield_takes(self):
        for put, name, descriptor, word in (
                ([I, I], "f", "I", "sort"), ([RAW, I], "f", "I", "raw"), ([*new("C"), I], "f", "I", "kind"), ([*new("A"), N], "f", "I", "sort"),
                ([*new("A"), I], "r", "LA;", "sort"), ([*new("A"), RAW], "r", "LA;", "raw"), ([*new("A"), *new("C")], "r", "LA;", "kind"),
                ([*new("A"), I, I], "l", "J", "sort"), ([I], "f", "I", "few"), ([], "f", "I", "few"), ([N, I], "l", "J", "few"),
                ([I, N], "f", "I", "sort"), ([*new("C"), N], "f", "I", "kind"), ([RAW, N], "f", "I", "raw")):
            self.wrong(word, put + [("putfield", "A", name, descriptor)])

    def test_what_fits(self):
        for put, name, descriptor in ((new("B"), "r", "LA;"), (new("C"), "i", "LI;"), ([("string", "x")], "i", "LI;"),
                                      ([I, ("newarray", "I")], "i", "LI;"), (new("C"), "g", "LGone;"), ([I, ("newarray", "I")], "g", "LGone;"),
                                      ([I, ("anewarray", "B")], "a", "[LA;"), ([I, ("anewarray", "A")], "a", "[LA;")):
            self.ends([*new("A"), *put, ("putfield", "A", name, descriptor)])
        for put in (new("A"), [I, ("anewarray", "C")], [I, ("newarray", "I")], [I, ("anewarray", "[LA;")]):
            self.wrong("kind", [*new("A"), *put, ("putfield", "A", "a", "[LA;")])

    def test_what_is_asked(self):
        self.throws("NoSuchFieldError", [I, ("getfield", "A", "none", "I")])
        self.throws(CHANGE, [I, ("getfield", "A", "s", "I")])
        self.throws(MISSING, [I, N, ("putfield", "Gone", "f", "I")])
        self.wrong("few", [I, ("putfield", "Gone", "f", "I")])

    def test_final_ones(self):
        own = [("x", "I", ("final",), None), ("y", "I", ("static", "final"), None)]
        put = [("aload", 0), I, ("putfield", "D", "x", "I")]
        for name, descriptor, flags, rows, right in (
                ("<init>", "()V", ("public",), put, True), ("m", "()V", ("public",), put, False),
                ("<clinit>", "()V", ("static",), [I, ("putstatic", "D", "y", "I")], True),
                ("m", "()V", ("public",), [I, ("putstatic", "D", "y", "I")], False)):
            methods = [made(name, ([("aload", 0), ("invokespecial", "Object", "<init>", "()V")] if name == "<init>" else [])
                            + rows + [("return",)], descriptor, flags)]
            if name != "<init>":
                methods.append(init())
            call = [("invokevirtual", "D", "m", "()V")] if name == "m" else [("pop",)]
            world = self.world([*new("D"), *call, ("return",)], more={"D": file("D", fields=own, methods=methods)})
            machine = Machine(world)
            found = machine.call("a", "A", "go", "()V", [])
            if right:
                self.assertEqual(found, ("returned",), name)
            else:
                self.assertEqual(machine.sort_of(found[1]), ("base", ACCESS), name)


class RawFields(MachineCase):
    """putfield on an object that is raw, in an <init>."""

    def outcome(self, rows, parent_rows=(), stack=20):
        methods = [("<init>", "()V", ("public",), body([*rows, ("return",)], stack))]
        above = file("E", fields=[("y", "I", (), None)], methods=[
            ("<init>", "()V", ("public",), body([("aload", 0), ("invokespecial", "Object", "<init>", "()V"), *parent_rows, ("return",)]))])
        world = self.world([*new("D"), ("pop",), ("return",)], more={
            "D": file("D", "E", fields=[("x", "I", (), None), ("r", "LD;", (), None)], methods=methods), "E": above})
        return Machine(world).call("a", "A", "go", "()V", [])

    CALL = [("aload", 0), ("invokespecial", "E", "<init>", "()V")]

    def wrong_at(self, word, index, rows):
        self.assertEqual(self.outcome(rows), ("wrong", word, ("a", "D"), "<init>", "()V", index))

    def test_its_own(self):
        self.assertEqual(self.outcome([("aload", 0), I, ("putfield", "D", "x", "I"), *self.CALL]), ("returned",))
        self.assertEqual(self.outcome([*self.CALL, ("aload", 0), I, ("putfield", "D", "x", "I")]), ("returned",))

    def test_others(self):
        self.wrong_at("raw", 2, [("aload", 0), I, ("putfield", "E", "y", "I"), *self.CALL])
        self.wrong_at("raw", 2, [("new", "D"), I, ("putfield", "D", "x", "I"), *self.CALL])
        self.wrong_at("raw", 1, [("aload", 0), ("getfield", "D", "x", "I"), ("pop",), *self.CALL])
        self.wrong_at("raw", 2, [("aload", 0), ("aload", 0), ("putfield", "D", "r", "LD;"), *self.CALL])
        self.wrong_at("kind", 2, [("aload", 0), ("string", "x"), ("putfield", "D", "r", "LD;")])

    def test_raw_again_is_not_asked_behind_the_call(self):
        self.assertEqual(self.outcome([*self.CALL, ("aload", 0), ("aload", 0), ("putfield", "D", "r", "LD;")]), ("returned",))

    def test_a_return_ahead_of_the_call(self):
        self.wrong_at("return", 0, [])


class Arrays(MachineCase):
    LETTERS = {"Z": "b", "B": "b", "C": "c", "S": "s", "I": "i", "J": "l"}

    def test_new_ones(self):
        for letter in self.LETTERS:
            machine, reference = self.kind_of(("base", "[" + letter), [("iconst", 3), ("newarray", letter)])
            self.assertEqual(machine.held(reference), [0, 0, 0])
        for name, told in (("A", ("a", "[LA;")), ("String", ("base", "[LString;")), ("[I", ("base", "[[I")), ("[[LA;", ("a", "[[[LA;")),
                           ("I", ("a", "[LI;"))):
            machine, reference = self.kind_of(told, [("iconst", 2), ("anewarray", name)])
            self.assertEqual(machine.held(reference), [None, None])
        for row in (("newarray", "I"), ("anewarray", "A"), ("multianewarray", "[I", 1)):
            machine, reference = self.kind_of(("a", "[LA;") if row[1] == "A" else ("base", "[I"), [("iconst", 0), row])
            self.assertEqual(machine.held(reference), [])

    def test_sizes_below_0(self):
        for size in (-1, LOW):
            for row in (("newarray", "I"), ("anewarray", "A"), ("multianewarray", "[I", 1)):
                self.throws("NegativeArraySizeException", [("iconst", size), row])
            for sizes in ((2, size), (size, 2), (0, size), (size, 0), (2000, size)):
                self.throws("NegativeArraySizeException", [("iconst", sizes[0]), ("iconst", sizes[1]), ("multianewarray", "[[I", 2)])

    def test_what_they_take(self):
        for row in (("newarray", "I"), ("anewarray", "A"), ("multianewarray", "[I", 1), ("multianewarray", "[[I", 1)):
            self.wrong("sort", [N, row])
            self.wrong("sort", [J, row])
            self.wrong("few", [row])
        for put in ([I, N], [N, I], [J]):
            self.wrong("sort", put + [("multianewarray", "[[I", 2)])
        self.wrong("few", [I, ("multianewarray", "[[I", 2)])

    def test_what_is_asked(self):
        for row in (("anewarray", "Gone"), ("multianewarray", "[LGone;", 1)):
            self.throws(MISSING, [N, row])
            self.wrong("few", [row])
        self.throws(ACCESS, [("iconst", -1), ("anewarray", "p/Far")])
        self.wrong("sort", [N, ("newarray", "I")])

    def test_arrays_in_arrays(self):
        machine, reference = self.kind_of(("base", "[[[I"), [("iconst", 2), ("iconst", 3), ("multianewarray", "[[[I", 2)])
        self.assertEqual(reference, ("ref", 1))
        inner = machine.held(reference)
        self.assertEqual(inner, [("ref", 2), ("ref", 3)])
        for one in inner:
            self.assertEqual((machine.sort_of(one), machine.held(one)), (("base", "[[I"), [None] * 3))
        machine, reference = self.kind_of(("a", "[[LA;"), [("iconst", 2), ("iconst", 1), ("multianewarray", "[[LA;", 2)])
        self.assertEqual([machine.held(one) for one in machine.held(reference)], [[None], [None]])
        machine, reference = self.kind_of(("base", "[[[I"), [("iconst", 1), ("iconst", 2), ("iconst", 3), ("multianewarray", "[[[I", 3)])
        self.assertEqual([[machine.held(cell) for cell in machine.held(one)] for one in machine.held(reference)], [[[0, 0, 0]] * 2])

    def test_arrays_in_arrays_as_far_as_there_is_no_0(self):
        machine, reference = self.kind_of(("base", "[[[I"), [("iconst", 2), ("iconst", 0), ("iconst", 2000), ("multianewarray", "[[[I", 3)])
        self.assertEqual([machine.held(one) for one in machine.held(reference)], [[], []])
        machine, reference = self.kind_of(("base", "[[I"), [("iconst", 0), ("iconst", 2000), ("multianewarray", "[[I", 2)])
        self.assertEqual(machine.held(reference), [])

    def test_lengths(self):
        for size in (0, 3, 1000):
            for row in (("newarray", "J"), ("anewarray", "A")):
                self.gives(size, [("iconst", size), row, ("arraylength",)])
        self.throws(NULL, [N, ("arraylength",)])
        for put, word in (([I], "sort"), ([RAW], "raw"), (new("A"), "kind"), ([("string", "x")], "kind"), ([], "few"), ([J], "sort")):
            self.wrong(word, put + [("arraylength",)])

    def test_items(self):
        for letter, word in self.LETTERS.items():
            for number in NUMBERS:
                put = ("lconst" if letter == "J" else "iconst", number)
                told = number if letter == "J" else BITS[letter](number)
                rows = [("iconst", 2), ("newarray", letter), ("dup",), ("iconst", 1), put, (word + "astore",), ("iconst", 1),
                        (word + "aload",)]
                self.gives(told, rows, result="J" if letter == "J" else "I")
        rows = [("iconst", 2), ("anewarray", "A"), ("dup",), ("iconst", 0), *new("B"), ("aastore",), ("iconst", 0), ("aaload",)]
        self.kind_of(("a", "B"), rows)
        self.gives(None, [("iconst", 2), ("anewarray", "A"), I, ("pop",), ("iconst", 0), ("aaload",)], result="LA;")

    def test_indexes(self):
        for index in (-1, 2, LOW, HIGH):
            for letter, word in self.LETTERS.items():
                array = [("iconst", 2), ("newarray", letter), ("iconst", index)]
                self.throws("ArrayIndexOutOfBoundsException", array + [(word + "aload",)])
                self.throws("ArrayIndexOutOfBoundsException", array + [J if letter == "J" else I, (word + "astore",)])
            array = [("iconst", 2), ("anewarray", "A"), ("iconst", index)]
            self.throws("ArrayIndexOutOfBoundsException", array + [("aaload",)])
            # Ahead of what may not stand in the array.
            self.throws("ArrayIndexOutOfBoundsException", array + [*new("C"), ("aastore",)])

    def test_null(self):
        for word in "lbcsia":
            self.throws(NULL, [N, ("iconst", -1), (word + "aload",)])
            put = {"l": J, "a": N}.get(word, I)
            self.throws(NULL, [N, ("iconst", -1), put, (word + "astore",)])

    def test_other_sorts_of_arrays(self):
        for word in "lbcsia":
            put = {"l": J, "a": N}.get(word, I)
            for letter in "ZBCSIJ":
                if self.LETTERS[letter] != word:
                    self.wrong("kind", [I, ("newarray", letter), I, (word + "aload",)])
                    self.wrong("kind", [I, ("newarray", letter), I, put, (word + "astore",)])
            if word != "a":
                self.wrong("kind", [I, ("anewarray", "A"), I, (word + "aload",)])
            for object_, wrong in ((new("A"), "kind"), ([("string", "x")], "kind"), ([RAW], "raw"), ([I], "sort")):
                self.wrong(wrong, [*object_, I, (word + "aload",)])
                self.wrong(wrong, [*object_, I, put, (word + "astore",)])
            # The array goes ahead of the index, and the index ahead of the value.
            self.wrong("kind", [*new("A"), N, (word + "aload",)])
            self.wrong("sort", [N, N, (word + "aload",)])
            self.wrong("few", [N, (word + "aload",)])
            self.wrong("few", [N, N, (word + "astore",)])
        for word, put in (("iastore", N), ("bastore", N), ("aastore", I)):
            self.wrong("sort", [N, I, put, (word,)])
        self.wrong("sort", [N, I, N, N, ("lastore",)])
        self.wrong("few", [N, I, I, ("lastore",)])
        self.wrong("raw", [N, I, RAW, ("aastore",)])

    def test_objects_that_may_not_stand_in_an_array(self):
        for held, put, right in (("A", new("B"), True), ("A", new("A"), True), ("A", [N], True), ("A", new("C"), False),
                                 ("B", new("A"), False), ("I", new("A"), True), ("I", new("C"), False), ("Object", [I, ("newarray", "I")], True),
                                 ("[I", [I, ("newarray", "I")], True), ("[I", [I, ("newarray", "J")], False),
                                 ("[LA;", [I, ("anewarray", "B")], True), ("[LB;", [I, ("anewarray", "A")], False),
                                 ("Cloneable", [I, ("newarray", "I")], True), ("[LI;", [I, ("anewarray", "C")], False)):
            rows = [I, ("anewarray", held), ("iconst", 0), *put, ("aastore",)]
            if right:
                self.ends(rows)
            else:
                self.throws("ArrayStoreException", rows)


class Casts(MachineCase):
    def test_them(self):
        array = [I, ("anewarray", "B")]
        for put, name, right in (
                (new("B"), "B", True), (new("B"), "A", True), (new("A"), "B", False), (new("B"), "I", True), (new("B"), "J", True),
                (new("A"), "J", False), (new("C"), "I", False), (new("A"), "Object", True), (array, "[LB;", True), (array, "[LA;", True),
                (array, "[LI;", True), (array, "[LC;", False), (array, "[LObject;", True),
                (array, "Object", True), (array, "Cloneable", True), (array, "Serializable", True), (array, "I", False),
                (array, "[[LB;", False), (array, "[I", False), (array, "[J", False), (new("A"), "[LA;", False), ([("string", "x")], "String", True),
                ([("iconst", 1), ("newarray", "I")], "[I", True), ([("iconst", 1), ("newarray", "I")], "[J", False),
                ([("iconst", 1), ("newarray", "I")], "[LObject;", False), ([I, ("anewarray", "[I")], "[LObject;", True),
                ([I, ("anewarray", "[I")], "[LCloneable;", True), ([I, ("anewarray", "[I")], "[[I", True)):
            self.gives(1 if right else 0, [*put, ("instanceof", name)])
            if right:
                self.ends([*put, ("checkcast", name)])
            else:
                self.throws("ClassCastException", [*put, ("checkcast", name)])

    def test_null_asks_for_nothing(self):
        for name in ("Gone", "A", "p/Far", "[LGone;"):
            self.gives(None, [N, ("checkcast", name)], result="LA;")
            self.gives(0, [N, ("instanceof", name)])

    def test_what_is_asked(self):
        for word in ("checkcast", "instanceof"):
            for name, error in (("Gone", MISSING), ("p/Far", ACCESS), ("[[LGone;", MISSING)):
                self.throws(error, [*new("A"), (word, name)])
                self.throws(error, [RAW, (word, name)])
                self.throws(error, [I, (word, name)])
            self.wrong("few", [(word, "Gone")])
            self.wrong("sort", [I, (word, "A")])
            self.wrong("sort", [J, (word, "A")])
            self.wrong("raw", [RAW, (word, "A")])


class Left(MachineCase):
    def test_what_each_row_leaves(self):
        own, array, items = new("A"), [("iconst", 2), ("newarray", "I")], [("iconst", 2), ("anewarray", "A")]
        for put, row, left in (
                ([I], ("putstatic", "A", "s", "I"), []), ([J], ("putstatic", "A", "t", "J"), []), ([*own, I], ("putfield", "A", "f", "I"), []),
                ([*own, J], ("putfield", "A", "l", "J"), []), (own, ("getfield", "A", "f", "I"), [("int", 0)]),
                (own, ("getfield", "A", "l", "J"), [("long", 0), "half"]), ([], ("getstatic", "A", "u", "LA;"), [None]),
                ([I], ("newarray", "I"), [("ref", 1)]), ([I], ("anewarray", "A"), [("ref", 1)]), ([I, I], ("multianewarray", "[[I", 2), [("ref", 1)]),
                (array, ("arraylength",), [("int", 2)]), ([*array, ("iconst", 1)], ("iaload",), [("int", 0)]),
                ([*items, ("iconst", 1)], ("aaload",), [None]), ([*array, ("iconst", 1), I], ("iastore",), []),
                ([*items, ("iconst", 1), N], ("aastore",), []), (own, ("checkcast", "A"), [("ref", 1)]), (own, ("instanceof", "A"), [("int", 1)]),
                (own, ("monitorenter",), []), ([*own, ("dup",), ("monitorenter",)], ("monitorexit",), []),
                ([("iconst", 2), ("newarray", "J"), ("iconst", 1), J], ("lastore",), []),
                ([("iconst", 2), ("newarray", "J"), ("iconst", 1)], ("laload",), [("long", 0), "half"])):
            self.leaves(left, put, row)


class Monitors(MachineCase):
    def test_counts(self):
        enter, leave = [("dup",), ("monitorenter",)], [("dup",), ("monitorexit",)]
        self.ends([*new("A"), *enter, *leave])
        self.ends([*new("A"), *enter, *enter, *leave, *leave])
        for rows in (leave, enter + leave + leave, leave + enter, enter * 3 + leave * 4):
            self.throws("IllegalMonitorStateException", [*new("A"), *rows])
        self.ends([*new("A"), *enter])

    def test_of_each_object(self):
        self.throws("IllegalMonitorStateException", [*new("A"), ("monitorenter",), *new("A"), ("monitorexit",)])
        self.ends([("string", "x"), ("monitorenter",), ("string", "x"), ("monitorexit",)])

    def test_what_they_take(self):
        for word in ("monitorenter", "monitorexit"):
            self.throws(NULL, [N, (word,)])
            self.wrong("sort", [I, (word,)])
            self.wrong("sort", [J, (word,)])
            self.wrong("few", [(word,)])
        self.ends([RAW, ("dup",), ("monitorenter",), ("monitorexit",)])


class Kinds(MachineCase):
    """What fits what, where two loaders know a name by unlike classes: [10.4], [10.20]."""

    def test_a_name_that_two_loaders_know(self):
        take = made("take", [("return",)], "(LX;)V")
        world = World({"a": {"A": file("A", methods=[made("go", [*new("X"), ("invokestatic", "T", "take", "(LX;)V"), ("return",)])]),
                             "X": file("X", methods=[init()]), "T": "b"},
                       "b": {"T": file("T", methods=[take]), "X": file("X", methods=[init()])}})
        self.assertEqual(Machine(world).call("a", "A", "go", "()V", []), ("wrong", "kind", ("a", "A"), "go", "()V", 3))

    def test_a_field_of_another_loader(self):
        world = World({"a": {"A": file("A", methods=[made("go", [*new("X"), ("putstatic", "T", "x", "LX;"), ("return",)])]),
                             "X": file("X", methods=[init()]), "T": "b"},
                       "b": {"T": file("T", fields=[("x", "LX;", ("public", "static"), None)]), "X": file("X")}})
        self.assertEqual(Machine(world).call("a", "A", "go", "()V", []), ("wrong", "kind", ("a", "A"), "go", "()V", 3))
        # Where the name denotes nothing that loads well, any object fits.
        for told in ({}, {"X": file("X", "Gone")}, {"X": face("X")}):
            world = World({"a": {"A": file("A", methods=[made("go", [*new("X"), ("putstatic", "T", "x", "LX;"), ("return",)])]),
                                 "X": file("X", methods=[init()]), "T": "b"},
                           "b": {"T": file("T", fields=[("x", "LX;", ("public", "static"), None)]), **told}})
            self.assertEqual(Machine(world).call("a", "A", "go", "()V", []), ("returned",))


if __name__ == "__main__":
    unittest.main()
