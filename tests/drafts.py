"""Files of bytes for tests, put together part by part, so that each part can be changed and found again."""

from helpers import ErrorCase
from typegate.errors import NoClass
from typegate.files import read


def u1(*numbers):
    return [number % 256 for number in numbers]


def u2(*numbers):
    return [byte for number in numbers for byte in (number >> 8 & 255, number & 255)]


def u4(*numbers):
    return [byte for number in numbers for byte in (number >> 24 & 255, number >> 16 & 255, number >> 8 & 255, number & 255)]


def text(told):
    return [1] + u2(len(told)) + [ord(sign) for sign in told]


# The entries by their indexes: the long takes 17 and 18.
POOL = {
    1: [7] + u2(2), 2: text("A"), 3: [7] + u2(4), 4: text("Object"), 5: [7] + u2(6), 6: text("I"), 7: text("f"),
    8: text("ConstantValue"), 9: [3] + u4(7), 10: text("m"), 11: text("()V"), 12: text("Code"), 13: text("StackMapTable"),
    14: [7] + u2(15), 15: text("[I"), 16: text("Other"), 17: [5] + u4(1, 2), 19: [8] + u2(20), 20: text("x y"),
    21: [9] + u2(1, 22), 22: [12] + u2(7, 6), 23: [10] + u2(1, 24), 24: [12] + u2(10, 11), 25: [11] + u2(5, 24),
    26: text("<init>"), 27: [12] + u2(26, 11), 28: [10] + u2(1, 27), 29: text("[[[[[J"), 30: [7] + u2(29), 31: [10] + u2(14, 24),
    32: text("<clinit>"), 33: text("J"), 34: text("LString;"), 35: text("(IJ)V"), 36: [12] + u2(10, 35),
    37: [11] + u2(5, 36), 38: text("LObject;"), 39: text("()I"),
}
MANY = 40

# A file with an interface, a field with a constant, and a method with a handler and a map.
PARTS = {
    "magic": [202, 254, 186, 190], "version": [0, 0, 0, 52], "many": u2(MANY),
    **{index: POOL[index] for index in POOL},
    "flags": u2(33), "own": u2(1), "parent": u2(3), "faces": u2(1), "face": u2(5),
    "fields": u2(1), "field flags": u2(8), "field name": u2(7), "field descriptor": u2(6), "field attributes": u2(1),
    "constant name": u2(8), "constant length": u4(2), "constant": u2(9),
    "methods": u2(1), "method flags": u2(9), "method name": u2(10), "method descriptor": u2(11), "method attributes": u2(1),
    "code name": u2(12), "code length": None, "stack": u2(2), "places": u2(3), "length": None, "bytes": [0, 177, 87, 177],
    "handlers": u2(1), "handler": u2(0, 1, 2, 0), "code attributes": u2(1),
    "map name": u2(13), "map length": None, "map": u2(1) + [66, 7] + u2(3),
    "after": [], "attributes": u2(0), "end": [],
}
IN_CODE = ("stack", "places", "length", "bytes", "handlers", "handler", "code attributes", "map name", "map length", "map")


class Draft:
    """The bytes of the file with some parts changed, and the places of all parts."""

    def __init__(self, changes=()):
        parts = {**PARTS, **dict(changes)}
        for label, inside in (("map length", ["map"]), ("length", ["bytes"]), ("code length", IN_CODE)):
            if parts[label] is None:
                parts[label] = u4(sum(len(parts[one]) if parts[one] is not None else 4 for one in inside))
        self.places = {}
        self.data = []
        for label, part in parts.items():
            self.places[label] = len(self.data)
            self.data += part


class DraftCase(ErrorCase):
    def wrong(self, why, label, changes, more=0):
        """The word for some changes, told at the place of a part."""
        draft = Draft(changes)
        self.raises(NoClass, {"at": draft.places[label] + more, "why": why}, read, draft.data)

    def made(self, changes=()):
        return read(Draft(changes).data)

    def code(self, data, more=()):
        """The code of the method with these bytes."""
        changes = {"bytes": data, "handlers": u2(0), "handler": [], "code attributes": u2(0), "map name": [],
                   "map length": [], "map": [], **dict(more)}
        return self.made(changes).methods[0][3]
