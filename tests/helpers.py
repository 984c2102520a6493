"""What several tests need."""

import unittest

from typegate.classes import ClassFile, Code, Uncut
from typegate.errors import NoForm, NoMethod
from typegate.worlds import World

PLAIN = Code(0, 0, [("return",)], [], [])


def file(name="A", parent="Object", interfaces=(), flags=("public",), fields=(), methods=()):
    return ClassFile(name, parent, interfaces, flags, fields, methods)


def face(name="I", interfaces=(), methods=(), flags=("public", "abstract", "interface")):
    return ClassFile(name, "Object", interfaces, flags, (), methods)


def code(rows=(("return",),), handlers=(), frames=(), stack=0, places=0):
    return Code(stack, places, rows, handlers, frames)


def odd_things():
    """Objects of many kinds, none of which is a string, an integer, a list, a tuple or None."""
    return [
        True, False, 1.0, 0.0, 1j, b"A", bytearray(b"A"), {}, {"A": 1}, set(), {"A"}, frozenset(), range(3),
        iter([]), object(), int, len, Ellipsis, NotImplemented, memoryview(b"A"), lambda: None,
        PLAIN, Uncut("map", 0), file(), World({}), NoMethod(),
    ]


def no_strings():
    return odd_things() + [None, 0, 1, -1, 10 ** 5000, [], ["A"], (), ("A",), [[]], ([],)]


def no_integers():
    return odd_things() + [None, "", "0", "1", [], [0], (), (0,)]


def no_rows():
    return odd_things() + [None, 0, 1, "", "A", "public"]


class ErrorCase(unittest.TestCase):
    """A test case that can ask for an error with its attributes."""

    def raises(self, error, told, do, *arguments, **more):
        with self.assertRaises(error) as caught:
            do(*arguments, **more)
        self.assertIs(type(caught.exception), error, arguments)
        self.assertEqual(vars(caught.exception), told, arguments)


class FormCase(unittest.TestCase):
    """A test case that can ask for the words of NoForm."""

    def refused(self, why, at, make, *arguments):
        with self.assertRaises(NoForm) as caught:
            make(*arguments)
        self.assertEqual((caught.exception.why, caught.exception.at), (why, at), arguments)
        self.assertIs(type(caught.exception.at), int)
