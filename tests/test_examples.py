"""The examples of the document, as far as what has landed goes."""

import unittest

from typegate.classes import ClassFile, Code
from typegate.names import parameters
from typegate.worlds import World


class Examples(unittest.TestCase):
    def test_parameters(self):
        self.assertEqual(parameters("(I[JLp/A;)V"), ["I", "[J", "Lp/A;"])

    def test_an_interface(self):
        face = ClassFile("I", "Object", [], ["public", "abstract", "interface"], [], [])
        small = World({"a": {"I": face}})
        self.assertTrue(small.file_of(("a", "I")) == face)
        self.assertEqual(face.flags, ("public", "abstract", "interface"))

    def test_abs(self):
        code = Code(1, 1, [("iload", 0), ("ifge", 5), ("iload", 0), ("ineg",), ("ireturn",), ("iload", 0), ("ireturn",)],
                    [], [(5, ["int"], [])])
        self.assertEqual(code.frames, ((5, ("int",), ()),))
        self.assertEqual(code.rows[1], ("ifge", 5))
        made = ClassFile("A", "Object", [], ["public"], [], [("abs", "(I)I", ["public", "static"], code)])
        world = World({"a": {"A": made}})
        self.assertEqual(world.file_of(("a", "A")).methods, (("abs", "(I)I", ("public", "static"), code),))

    def test_a_class_of_nothing(self):
        made = ClassFile("A", "Object", (), ("public",), (), ())
        self.assertEqual((made.name, made.parent, made.interfaces, made.flags, made.fields, made.methods),
                         ("A", "Object", (), ("public",), (), ()))

    def test_an_init_that_calls_too_early(self):
        start = Code(1, 1, [("aload", 0), ("invokevirtual", "B", "go", "()V"), ("return",)], [], [])
        other = ClassFile("B", "Object", [], ["public"], [], [("<init>", "()V", ["public"], start)])
        self.assertEqual(World({"a": {"B": other}}).file_of(("a", "B")).methods[0][3].rows, start.rows)


if __name__ == "__main__":
    unittest.main()
