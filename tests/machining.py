"""What the tests of the machine need: a world around one method, and calls of it."""

from helpers import ErrorCase, face, file
from typegate.classes import Code
from typegate.machine import Machine
from typegate.worlds import World

LOW, HIGH = -2 ** 31, 2 ** 31 - 1
LOWEST, HIGHEST = -2 ** 63, 2 ** 63 - 1


def body(rows, stack=20, places=20, handlers=()):
    return Code(stack, places, rows, handlers, [])


def made(name, rows, descriptor="()V", flags=("public", "static"), **more):
    return (name, descriptor, flags, body(rows, **more))


def init(parent="Object", descriptor="()V", flags=("public",), more=()):
    """An <init> that calls that of its parent, and then does some more."""
    return ("<init>", descriptor, flags, body([("aload", 0), ("invokespecial", parent, "<init>", "()V"), *more, ("return",)]))


def new(name, descriptor="()V"):
    """The rows that make a new object."""
    return [("new", name), ("dup",), ("invokespecial", name, "<init>", descriptor)]


class MachineCase(ErrorCase):
    """A method go of the class A runs; B is below A, and C is beside them; A names I, and B names J."""

    def world(self, rows=(("return",),), descriptor="()V", flags=("public", "static"), name="go", methods=(), more=None, **told):
        own = made(name, rows, descriptor, flags, **told)
        fields = [("f", "I", (), None), ("l", "J", (), None), ("r", "LA;", (), None), ("b", "B", (), None), ("z", "Z", (), None),
                  ("c", "C", (), None), ("h", "S", (), None), ("s", "I", ("static",), None), ("t", "J", ("static",), None),
                  ("u", "LA;", ("static",), None), ("v", "B", ("static",), None), ("i", "LI;", (), None), ("g", "LGone;", (), None),
                  ("a", "[LA;", (), None)]
        return World({"a": {
            "A": file("A", interfaces=["I"], fields=fields, methods=[own, init(), *methods]),
            "B": file("B", "A", ["J"], methods=[init("A")]), "C": file("C", methods=[init()]),
            "I": face("I"), "J": face("J"), "p/Far": file("p/Far", flags=()),
            "Copy": file("Copy", "Object", ["Cloneable"], fields=[("n", "I", (), None)], methods=[init()]), **(more or {})}})

    def run_rows(self, rows, arguments=(), descriptor="()V", steps=10000, **more):
        machine = Machine(self.world(rows, descriptor, **more))
        return machine, machine.call("a", "A", more.get("name", "go"), descriptor, arguments, steps=steps)

    def gives(self, expected, rows, arguments=(), result="I", **more):
        """What a method with these rows and a return gives."""
        sorts = "".join("I" if LOW <= value <= HIGH else "J" for value in arguments)
        told = {"I": ("ireturn",), "J": ("lreturn",)}.get(result, ("areturn",))
        machine, found = self.run_rows([*rows, told], arguments, "(" + sorts + ")" + result, **more)
        self.assertEqual(found, ("returned", expected), rows)
        return machine

    def kind_of(self, expected, rows, result="LObject;", **more):
        """The class or array of the object that a method returns."""
        machine, found = self.run_rows([*rows, ("areturn",)], descriptor="()" + result, **more)
        self.assertEqual(found[0], "returned", (rows, found))
        self.assertEqual(machine.sort_of(found[1]), expected)
        return machine, found[1]

    def leaves(self, left, put, row):
        """What a row leaves on the stack, above a long that stands there."""
        seen = Machine(self.world([("lconst", 9), *put, row, ("nop",), ("nop",)])).seen("a", "A", "go", "()V", [])
        below = [one[3] for one in seen].index(1 + len(put))
        self.assertEqual(seen[below + 1][5], [("long", 9), "half", *left], row)

    def ends(self, rows, **more):
        """A method with these rows and a return ends without giving anything."""
        machine, found = self.run_rows([*rows, ("return",)], **more)
        self.assertEqual(found, ("returned",), rows)
        return machine

    def wrong(self, word, rows, index=None, arguments=(), descriptor="()V", **more):
        """The word with which the machine stops, at the last row if nothing else is said."""
        _, found = self.run_rows(rows, arguments, descriptor, **more)
        at = len(rows) - 1 if index is None else index
        self.assertEqual(found, ("wrong", word, ("a", "A"), more.get("name", "go"), descriptor, at), rows)

    def throws(self, name, rows, arguments=(), descriptor="()V", **more):
        """The class of the object that is thrown."""
        machine, found = self.run_rows(rows, arguments, descriptor, **more)
        self.assertEqual(found[0], "thrown", (rows, found))
        loader = "a" if name in ("A", "B", "C") else "base"
        self.assertEqual(machine.sort_of(found[1]), (loader, name), rows)
        self.assertIs(machine.is_raw(found[1]), False)
        return machine
