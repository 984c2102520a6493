"""What the tests of the judge need: a world, and methods of one instruction."""

from helpers import ErrorCase, face, file
from typegate.classes import Code
from typegate.judge import fault_of, frames_of
from typegate.worlds import World

MISSING = "NoClassDefFoundError"
LAST = ("goto", "switch", "athrow", "ireturn", "lreturn", "areturn", "return")


def thing(name):
    return ("object", name)


def method(name="m", *flags, descriptor="()V", body=None):
    told = None if "abstract" in flags or "native" in flags else body or Code(1, 9, [("return",)], [], [])
    return (name, descriptor, flags, told)


def places_of_stack(entries):
    return sum(2 if entry == "long" else 1 for entry in entries)


def only_in_init(*entries):
    """The name of a method in which these entries may be told."""
    return "<init>" if "this" in entries else "m"


class JudgeCase(ErrorCase):
    """A is below P, P below Q, all in one package; A names I, and I names J."""

    def world_for(self, told, **more):
        """A world in which A declares one method."""
        own = file("A", "P", ["I"], fields=[("f", "I", (), None), ("s", "I", ("static",), None)], methods=[told])
        return World({"a": {"P": file("P", "Q"), "Q": file("Q"), "I": face("I", ["J"]), "J": face("J"),
                            "Bad": file("Bad", "Bad"), "B": file("B", "A"), "A": own, **more}})

    def fault(self, expected, rows, frames=(), handlers=(), room=9, places=9, name="m", descriptor="()V", flags=(),
              loose=False, **more):
        world = self.world_for((name, descriptor, flags, Code(room, places, rows, handlers, frames)), **more)
        found = fault_of(world, ("a", "A"), name, descriptor, loose=loose)
        self.assertEqual(found, expected, (rows, frames, handlers))

    def at_one(self, row, places, stack, in_init):
        """Rows and frames: the instruction with index 1 finds just these entries; that with index 3 is a new."""
        rows = [("goto", 0), row, ("return",), ("new", "A"), ("return",)]
        frames = [(0, ["this"] if in_init else [], []), (1, places, stack), (2, [], []), (3, [], [])]
        if row[0] not in LAST:
            del frames[2]
        return rows, frames

    def word(self, expected, row, stack, places=(), **more):
        """The word that an instruction is given for this stack."""
        name = only_in_init(*stack, *places)
        rows, frames = self.at_one(row, places, stack, name == "<init>")
        told = {"room": 12, "name": name, **more}
        self.fault(None if expected is None else (1, expected), rows, frames, **told)

    def leaves(self, expected, row, stack, places=(), behind=None, **more):
        """What an instruction leaves on the stack, and in the locals."""
        name = only_in_init(*stack)
        rows, frames = self.at_one(row, places, stack, name == "<init>")
        world = self.world_for((name, "()V", (), Code(12, 9, rows, [], frames)), **more)
        found = frames_of(world, ("a", "A"), name, "()V")[2]
        self.assertEqual(found[1], tuple(expected), (row, stack))
        self.assertEqual(len(found[0]), 9)
        if behind is not None:
            self.assertEqual(found[0][:len(behind)], tuple(behind), (row, stack))
