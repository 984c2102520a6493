import unittest

from typegate import errors
from typegate.classes import Code
from typegate.errors import TypegateError

ARGUMENTS = {
    "NoDescriptor": (), "NoForm": ("why", "at"), "NoWorld": ("loader", "name"), "NotDefined": ("cls",),
    "NoLoader": ("loader",), "NoEntry": ("entry",), "NotFound": ("name", "word"), "NoMethod": (),
    "NotRight": ("index", "word"), "NoCode": (), "NoFrames": ("index", "word"), "NoBytes": (),
    "NoClass": ("at", "why"), "NoText": (), "NoFile": (), "NoWriting": ("why", "method"),
    "NoMember": ("member",), "NoReference": ("reference",), "NoType": ("name",), "NoRow": ("row",),
    "NoCall": ("why",),
}


def classes():
    return {name: getattr(errors, name) for name in ARGUMENTS}


class Places(unittest.TestCase):
    def test_the_base_is_a_value_error(self):
        self.assertEqual(TypegateError.__bases__, (ValueError,))

    def test_each_is_a_direct_subclass_of_the_base_alone(self):
        for name, error in classes().items():
            with self.subTest(name):
                self.assertEqual(error.__bases__, (TypegateError,))

    def test_none_is_below_another_one(self):
        for name, error in classes().items():
            for other_name, other in classes().items():
                self.assertEqual(issubclass(error, other), name == other_name)

    def test_each_is_defined_in_its_file(self):
        for name, error in classes().items():
            self.assertEqual((error.__module__, error.__name__), ("typegate.errors", name))

    def test_there_are_no_others(self):
        found = {name for name in vars(errors) if isinstance(vars(errors)[name], type)}
        self.assertEqual(found, set(ARGUMENTS) | {"TypegateError"})

    def test_each_is_caught_as_the_base(self):
        for name, error in classes().items():
            for caught in (error, TypegateError, ValueError):
                with self.assertRaises(caught):
                    raise error(*ARGUMENTS[name])


class Arguments(unittest.TestCase):
    def things(self):
        row = [1]
        row.append(row)
        return [None, True, 0, 10 ** 5000, "x", b"x", row, (1, []), {"a": []}, {1}, object(), int,
                Code(0, 0, [("return",)], [], []), errors.NoCode()]

    def test_the_attributes_are_the_very_things_by_position(self):
        for name, error in classes().items():
            for thing in self.things():
                made = error(*[(thing, argument) for argument in ARGUMENTS[name]])
                for argument in ARGUMENTS[name]:
                    self.assertIs(getattr(made, argument)[0], thing)
                    self.assertEqual(getattr(made, argument)[1], argument)

    def test_the_attributes_are_the_very_things_by_name(self):
        for name, error in classes().items():
            for thing in self.things():
                made = error(**{argument: thing for argument in ARGUMENTS[name]})
                for argument in ARGUMENTS[name]:
                    self.assertIs(getattr(made, argument), thing)

    def test_each_argument_has_its_own_name(self):
        for name, error in classes().items():
            made = error(**{argument: argument for argument in reversed(ARGUMENTS[name])})
            for argument in ARGUMENTS[name]:
                self.assertEqual(getattr(made, argument), argument)

    def test_arguments_are_wanted(self):
        for name, error in classes().items():
            if ARGUMENTS[name]:
                with self.assertRaises(TypeError):
                    error(*ARGUMENTS[name][1:])


if __name__ == "__main__":
    unittest.main()
