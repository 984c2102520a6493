"""The examples of the document."""

import unittest

from typegate.classes import ClassFile, Code
from typegate.errors import NoClass
from typegate.files import read, written
from typegate.finding import frames_found, needed
from typegate.forms import fault
from typegate.judge import fault_of, frames_of, judged
from typegate.loading import interfaces_of, loading_error
from typegate.machine import Machine
from typegate.names import parameters
from typegate.resolving import asked
from typegate.types import fits, least
from typegate.worlds import World


class Examples(unittest.TestCase):
    def test_parameters(self):
        self.assertEqual(parameters("(I[JLp/A;)V"), ["I", "[J", "Lp/A;"])

    def test_an_interface(self):
        face = ClassFile("I", "Object", [], ["public", "abstract", "interface"], [], [])
        small = World({"a": {"I": face}})
        self.assertTrue(small.file_of(("a", "I")) == face)
        self.assertEqual(face.flags, ("public", "abstract", "interface"))

    def test_fits_and_least(self):
        face = ClassFile("I", "Object", [], ["public", "abstract", "interface"], [], [])
        small = World({"a": {"I": face}})
        self.assertIs(fits(small, "a", ("object", "[I"), ("object", "Object")), True)
        self.assertIs(fits(small, "a", ("object", "Object"), ("object", "I")), True)
        self.assertIs(fits(small, "a", ("object", "[I"), ("object", "I")), False)
        self.assertIs(fits(small, "a", ("object", "[I"), ("object", "I"), loose=True), True)
        self.assertEqual(least(small, "a", ("object", "RuntimeException"), ("object", "Error")), ("object", "Throwable"))
        self.assertEqual(least(small, "a", ("object", "[[I"), ("object", "[LString;")), ("object", "[LObject;"))

    def test_the_classes_of_the_examples_load_well(self):
        code = Code(1, 1, [("iload", 0), ("ifge", 5), ("iload", 0), ("ineg",), ("ireturn",), ("iload", 0), ("ireturn",)],
                    [], [(5, ["int"], [])])
        start = Code(1, 1, [("aload", 0), ("invokevirtual", "B", "go", "()V"), ("return",)], [], [])
        for made in (ClassFile("A", "Object", [], ["public"], [], [("abs", "(I)I", ["public", "static"], code)]),
                     ClassFile("A", "Object", (), ("public",), (), ()),
                     ClassFile("B", "Object", [], ["public"], [], [("<init>", "()V", ["public"], start)])):
            self.assertIsNone(fault(made))
            self.assertIsNone(loading_error(World({"a": {made.name: made}}), ("a", made.name)))

    def test_interfaces(self):
        def made(name, interfaces):
            return ClassFile(name, "Object", interfaces, ["public", "abstract", "interface"], [], [])
        world = World({"a": {"A": ClassFile("A", "Object", ["I"], ["public"], [], []),
                             "B": ClassFile("B", "A", ["J", "K"], ["public"], [], []),
                             "I": made("I", []), "J": made("J", ["I"]), "K": made("K", [])}})
        self.assertEqual(interfaces_of(world, ("a", "B")), [("a", "J"), ("a", "I"), ("a", "K")])

    def test_the_judge(self):
        code = Code(1, 1, [("iload", 0), ("ifge", 5), ("iload", 0), ("ineg",), ("ireturn",), ("iload", 0), ("ireturn",)],
                    [], [(5, ["int"], [])])
        made = ClassFile("A", "Object", [], ["public"], [], [("abs", "(I)I", ["public", "static"], code)])
        world = World({"a": {"A": made}})
        self.assertIs(judged(world, ("a", "A")), None)
        self.assertEqual(fault_of(world, ("a", "A"), "abs", "(I)I", frames=[]), (1, "goal"))
        self.assertEqual(needed(code), [5])
        self.assertEqual(frames_found(world, ("a", "A"), "abs", "(I)I"), ((5, ("int",), ()),))
        self.assertEqual(frames_of(world, ("a", "A"), "abs", "(I)I")[1], (("int",), ("int",), False))
        self.assertEqual(asked(world, ("a", "A"), "abs", ("invokestatic", "A", "abs", "(I)I")), ("a", "A", "abs", "(I)I"))
        self.assertEqual(asked(world, ("a", "A"), "abs", ("invokevirtual", "A", "abs", "(I)I")),
                         "IncompatibleClassChangeError")
        self.assertEqual(Machine(world).call("a", "A", "abs", "(I)I", [-7]), ("returned", 7))
        self.assertEqual(Machine(world).call("a", "A", "abs", "(I)I", [-2147483648]), ("returned", -2147483648))
        self.assertTrue(read(written(made)) == made)
        with self.assertRaises(NoClass) as caught:
            read([202, 254, 186, 191])
        self.assertEqual((caught.exception.at, caught.exception.why), (0, "magic"))

    def test_abs(self):
        code = Code(1, 1, [("iload", 0), ("ifge", 5), ("iload", 0), ("ineg",), ("ireturn",), ("iload", 0), ("ireturn",)],
                    [], [(5, ["int"], [])])
        self.assertEqual(code.frames, ((5, ("int",), ()),))
        self.assertEqual(code.rows[1], ("ifge", 5))
        made = ClassFile("A", "Object", [], ["public"], [], [("abs", "(I)I", ["public", "static"], code)])
        world = World({"a": {"A": made}})
        self.assertEqual(world.file_of(("a", "A")).methods, (("abs", "(I)I", ("public", "static"), code),))

    def test_a_class_of_nothing(self):
        made = ClassFile("A", "Object", (), ("public",), (), ())
        self.assertEqual(written(made), [
            202, 254, 186, 190, 0, 0, 0, 52, 0, 5, 7, 0, 2, 1, 0, 1, 65, 7, 0, 4, 1, 0, 6, 79, 98, 106, 101, 99, 116,
            0, 33, 0, 1, 0, 3, 0, 0, 0, 0, 0, 0, 0, 0])
        self.assertEqual((made.name, made.parent, made.interfaces, made.flags, made.fields, made.methods),
                         ("A", "Object", (), ("public",), (), ()))

    def test_an_init_that_calls_too_early(self):
        start = Code(1, 1, [("aload", 0), ("invokevirtual", "B", "go", "()V"), ("return",)], [], [])
        other = ClassFile("B", "Object", [], ["public"], [], [("<init>", "()V", ["public"], start)])
        self.assertEqual(World({"a": {"B": other}}).file_of(("a", "B")).methods[0][3].rows, start.rows)
        self.assertEqual(judged(World({"a": {"B": other}}), ("a", "B")), ("<init>", "()V", 1, "sort"))


if __name__ == "__main__":
    unittest.main()
