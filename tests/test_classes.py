"""ClassFile: [2.1], [8.1], [8.4]."""

import itertools
import unittest

from helpers import PLAIN, FormCase, code, file, no_rows, no_strings
from typegate import classes
from typegate.classes import ClassFile, Code, Uncut

FLAGS = ("public", "private", "protected", "static", "final", "synchronized", "abstract", "interface", "native")
WRONG_CLASS_NAMES = ["", "/", "p/", "/A", "p//A", "[I", "[LA;", "LA;", "a" * 31, "A ", "A\n", "A.B", "<init>",
                     "a" * 30 + "/" + "b" * 30, "\u00e9", "A%"]
WRONG_FLAGS = [["Public"], ["public", "public"], ["static", "public", "static"], ["super"], ["volatile"], [""], [None],
               [1], [True], [["public"]], [("public",)], ["public "], ["public", None], list(FLAGS) + ["public"],
               ["public"] * 65535, [b"public"], [PLAIN]]


class Heads(FormCase):
    def test_attributes_and_arguments_by_name(self):
        made = ClassFile(methods=[("m", "()V", [], None)], fields=[("f", "I", [], None)], flags=["final", "public"],
                         interfaces=["I", "J"], parent="p/P", name="p/A")
        self.assertEqual((made.name, made.parent, made.interfaces, made.flags, made.fields, made.methods),
                         ("p/A", "p/P", ("I", "J"), ("public", "final"), (("f", "I", (), None),),
                          (("m", "()V", (), None),)))

    def test_listed_methods_stand_in_the_classes(self):
        for made in (ClassFile, Code, Uncut):
            self.assertEqual(made.__module__, classes.__name__)
            self.assertIn("__init__", vars(made))
            self.assertIn("__eq__", vars(made))

    def test_names(self):
        for name in ("A", "p/A", "a" * 30, "a" * 30 + "/" + "b" * 29, "Object"):
            self.assertEqual(file(name).name, name)
            self.assertEqual(file(parent=name).parent, name)
            self.assertEqual(file(interfaces=[name]).interfaces, (name,))
        self.assertIsNone(file(parent=None).parent)
        for name in WRONG_CLASS_NAMES + no_strings():
            self.refused("name", -1, file, name)
            if name is not None:
                self.refused("parent", -1, file, "A", name)
            self.refused("interface", 0, file, "A", "Object", [name])
            self.refused("interface", 2, file, "A", "Object", ("I", "J", name, ""))

    def test_interfaces_are_a_row(self):
        for thing in no_rows():
            self.refused("interfaces", -1, file, "A", "Object", thing)
        self.assertEqual(file(interfaces=["I", "I"]).interfaces, ("I", "I"))


class Flags(FormCase):
    def test_each_alone(self):
        for word in FLAGS:
            self.assertEqual(file(flags=[word]).flags, (word,))

    def test_they_are_kept_in_order(self):
        self.assertEqual(file(flags=[]).flags, ())
        self.assertEqual(file(flags=tuple(reversed(FLAGS))).flags, FLAGS)
        for words in itertools.permutations(FLAGS, 2):
            wanted = tuple(word for word in FLAGS if word in words)
            self.assertEqual(file(flags=list(words)).flags, wanted)
            self.assertEqual(file(fields=[("f", "I", words, None)]).fields[0][2], wanted)
            self.assertEqual(file(methods=[("m", "()V", words, None)]).methods[0][2], wanted)

    def test_wrong_flags(self):
        for flags in WRONG_FLAGS + no_rows():
            self.refused("flags", -1, file, "A", "Object", (), flags)
            self.refused("field", 0, file, "A", "Object", (), (), [("f", "I", flags, None)])
            self.refused("method", 0, file, "A", "Object", (), (), (), [("m", "()V", flags, None)])


class Fields(FormCase):
    def taken(self, field):
        self.assertEqual(file(fields=[field]).fields, ((field[0], field[1], tuple(field[2]), field[3]),))

    def wrong(self, thing):
        self.refused("field", 0, file, "A", "Object", (), (), [thing])
        self.refused("field", 1, file, "A", "Object", (), (), (("f", "I", (), None), thing, None))

    def test_a_row(self):
        for thing in no_rows():
            self.refused("fields", -1, file, "A", "Object", (), (), thing)

    def test_tuples_of_four(self):
        self.taken(("f", "I", [], None))
        for thing in no_strings() + ["", "fIxn", ["f", "I", [], None], ("f", "I", []), ("f", "I", [], None, None), ()]:
            self.wrong(thing)

    def test_names(self):
        self.taken(("a" * 30, "I", [], None))
        for name in ["", "a" * 31, "p/f", "<init>", "<clinit>", "f\n"] + no_strings():
            self.wrong((name, "I", [], None))

    def test_descriptors(self):
        for descriptor in ("Z", "B", "S", "C", "I", "J", "Lp/A;", "[I", "[[[[[J"):
            self.taken(("f", descriptor, [], None))
        for descriptor in ["", "V", "F", "A", "()V", "[[[[[[I", "II", "LA", "[V", "I\n", "QA;", "[QA;"] + no_strings():
            self.wrong(("f", descriptor, [], None))

    def test_constants(self):
        for constant in (None, 0, 1, -1, 2 ** 63 - 1, -2 ** 63, "", "a", "a" * 200, " ~", "A b"):
            for descriptor in ("I", "J", "LString;", "[I"):
                self.taken(("f", descriptor, ["static"], constant))
        for constant in (2 ** 63, -2 ** 63 - 1, 10 ** 5000, True, False, 1.0, "a" * 201, "%", "\n", "\u00e9", "a\x7f", b"a",
                         [], (), [1], (1,), {}, PLAIN, Uncut("map", 0), file(), object()):
            self.wrong(("f", "I", ["static"], constant))


class Methods(FormCase):
    def taken(self, method):
        self.assertEqual(file(methods=[method]).methods, ((method[0], method[1], tuple(method[2]), method[3]),))

    def wrong(self, thing):
        self.refused("method", 0, file, "A", "Object", (), (), (), [thing])
        self.refused("method", 1, file, "A", "Object", (), (), (), (("m", "()V", (), None), thing, None))

    def test_a_row(self):
        for thing in no_rows():
            self.refused("methods", -1, file, "A", "Object", (), (), (), thing)

    def test_tuples_of_four(self):
        self.taken(("m", "()V", [], None))
        for thing in no_strings() + ["", "mdfc", ["m", "()V", [], None], ("m", "()V", []), ("m", "()V", [], None, 0), ()]:
            self.wrong(thing)

    def test_names(self):
        for name in ("m", "a" * 30, "<init>", "<clinit>"):
            self.taken((name, "()V", [], None))
        for name in ["", "a" * 31, "p/m", "<init", "<INIT>", "<init>\n", "<cinit>", "init>"] + no_strings():
            self.wrong((name, "()V", [], None))

    def test_descriptors(self):
        for descriptor in ("()V", "(IJ[LA;)[[I", "(" + "I" * 254 + ")V"):
            self.taken(("m", descriptor, [], None))
        for descriptor in ["", "I", "V", "()", "(V)V", "(" + "I" * 255 + ")V", "()V\n"] + no_strings():
            self.wrong(("m", descriptor, [], None))

    def test_forms_of_init_are_not_looked_at_here(self):
        self.taken(("<init>", "()I", ["static", "abstract"], None))
        self.taken(("<clinit>", "(J)LA;", ["native"], PLAIN))

    def test_codes(self):
        for worth in (None, PLAIN, Uncut("map", 3), code([("goto", 0)])):
            self.taken(("m", "()V", [], worth))
        for worth in [thing for thing in no_strings() if thing is not None and not isinstance(thing, (Code, Uncut))]:
            self.wrong(("m", "()V", [], worth))
        self.wrong(("m", "()V", [], "code"))
        self.wrong(("m", "()V", [], (0, 0, (("return",),), (), ())))


class Order(FormCase):
    def test_the_first_of_all_is_told(self):
        right = ["A", "Object", [], [], [], []]
        wrong = [("name", -1, ""), ("parent", -1, ""), ("interfaces", -1, None), ("flags", -1, None),
                 ("fields", -1, None), ("methods", -1, None)]
        deeper = [("name", -1, None), ("parent", -1, 0), ("interface", 1, ["I", "", None]), ("flags", -1, ["x"]),
                  ("field", 0, [None]), ("method", 0, [None])]
        for first in range(6):
            for second in range(first + 1, 6):
                for one in (wrong, deeper):
                    for other in (wrong, deeper):
                        arguments = list(right)
                        arguments[first] = one[first][2]
                        arguments[second] = other[second][2]
                        self.refused(one[first][0], one[first][1], ClassFile, *arguments)


class Kept(unittest.TestCase):
    def lists(self):
        return [["I", "J"], ["abstract", "public"], [("f", "I", ["static", "public"], 7)],
                [("m", "()V", ["static", "private"], PLAIN), ("n", "()V", ["abstract"], None)]]

    def tuples(self):
        return (("I", "J"), ("public", "abstract"), (("f", "I", ("public", "static"), 7),),
                (("m", "()V", ("private", "static"), PLAIN), ("n", "()V", ("abstract",), None)))

    def test_lists_and_tuples_give_equal_files(self):
        one = ClassFile("A", "B", *self.lists())
        self.assertTrue(one == ClassFile("A", "B", *self.tuples()))
        self.assertEqual((one.interfaces, one.flags, one.fields, one.methods), self.tuples())
        for kept in (one.interfaces, one.flags, one.fields, one.methods, one.fields[0][2], one.methods[0][2]):
            self.assertIs(type(kept), tuple)

    def test_what_is_handed_in_stays_and_may_be_changed(self):
        lists = self.lists()
        made = ClassFile("A", "B", *lists)
        self.assertEqual(lists, self.lists())
        lists[2][0][2].append("final")
        lists[3][0][2].clear()
        for row in lists:
            row.clear()
        self.assertEqual((made.interfaces, made.flags, made.fields, made.methods), self.tuples())


class Equality(unittest.TestCase):
    def test_equal_if_all_six_are(self):
        def arguments():
            return ["A", "B", ["I"], ["public"], [("f", "I", [], 1)], [("m", "()V", [], code())]]
        others = ["C", None, [], ["final"], [("f", "I", [], "1")], [("m", "()V", [], code(stack=1))]]
        self.assertTrue(ClassFile(*arguments()) == ClassFile(*arguments()))
        self.assertFalse(ClassFile(*arguments()) != ClassFile(*arguments()))
        for place in range(6):
            changed = arguments()
            changed[place] = others[place]
            self.assertFalse(ClassFile(*arguments()) == ClassFile(*changed))
            self.assertTrue(ClassFile(*arguments()) != ClassFile(*changed))

    def test_the_order_of_flags_does_not_matter_but_that_of_others_does(self):
        self.assertTrue(file(flags=["final", "public"]) == file(flags=["public", "final"]))
        self.assertFalse(file(interfaces=["I", "J"]) == file(interfaces=["J", "I"]))

    def test_uncuts_and_codes_within(self):
        def made(worth):
            return file(methods=[("m", "()V", [], worth)])
        self.assertTrue(made(Uncut("map", 1)) == made(Uncut("map", 1)))
        self.assertFalse(made(Uncut("map", 1)) == made(Uncut("map", 2)))
        self.assertFalse(made(Uncut("map", 1)) == made(PLAIN))
        self.assertFalse(made(None) == made(PLAIN))

    def test_unequal_to_every_other_object(self):
        one = file("Other")
        for thing in no_strings() + ["Other", ("Other", "Object", (), ("public",), (), ())]:
            self.assertFalse(one == thing)
            self.assertTrue(one != thing)
            self.assertFalse(thing == one)


if __name__ == "__main__":
    unittest.main()
