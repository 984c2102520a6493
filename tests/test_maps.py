"""The map of a code that is read: [7.11]."""

import unittest

from drafts import Draft, DraftCase, text, u2, u4
from typegate.classes import Code, Uncut
from typegate.errors import NoClass
from typegate.files import read

# Instructions begin at 0, 1, 4, 5 and so on; the one at 1 is a new.
BYTES = [0, 187, 0, 1] + [0] * 120 + [177]
OBJECT = ("object", "Object")


class MapCase(DraftCase):
    def draft(self, data, flags=8, descriptor="()V", name=10, places=9, code=None):
        changes = {"bytes": code or BYTES, "handlers": u2(0), "handler": [], "map": data, "method flags": u2(flags),
                   16: text(descriptor), "method descriptor": u2(16), "method name": u2(name), "places": u2(places)}
        return Draft(changes)

    def frames(self, expected, data, **more):
        code = read(self.draft(data, **more).data).methods[0][3]
        self.assertIsInstance(code, Code, (data, code))
        self.assertEqual(code.frames, tuple(expected), data)

    def uncut(self, number, data, **more):
        self.assertEqual(read(self.draft(data, **more).data).methods[0][3], Uncut("map", number), data)

    def out(self, data, **more):
        draft = self.draft(data, **more)
        self.raises(NoClass, {"at": draft.places["map name"], "why": "out"}, read, draft.data)


class Kinds(MapCase):
    def test_none(self):
        self.frames([], u2(0))

    def test_the_same_locals(self):
        for byte, index in ((0, 0), (1, 1), (4, 2), (63, 61)):
            self.frames([(index, (), ())], u2(1) + [byte])
            self.frames([(index, (), ())], u2(1) + [251] + u2(byte))
        self.frames([(122, (), ())], u2(1) + [251] + u2(124))

    def test_one_on_the_stack(self):
        for byte, index in ((0, 0), (1, 1), (4, 2), (63, 61)):
            self.frames([(index, (), ("int",))], u2(1) + [64 + byte, 1])
            self.frames([(index, (), ("long",))], u2(1) + [247] + u2(byte) + [4])
        self.frames([(122, (), (OBJECT,))], u2(1) + [247] + u2(124) + [7] + u2(3))

    def test_fewer_locals(self):
        for tag, left in ((248, ("int",)), (249, ("int", "long")), (250, ("int", "long", OBJECT))):
            self.frames([(0, left, ())], u2(1) + [tag] + u2(0), descriptor="(IJLObject;I)V")
        self.frames([(0, (), ())], u2(1) + [248] + u2(0), descriptor="(IJI)V")
        self.uncut(0, u2(1) + [248] + u2(0), descriptor="(IJ)V")
        self.uncut(0, u2(1) + [249] + u2(0), descriptor="(I)V")
        self.uncut(0, u2(1) + [250] + u2(0))

    def test_more_locals(self):
        self.frames([(0, ("int",), ())], u2(1) + [252] + u2(0) + [1])
        self.frames([(0, ("int", "long", "top"), ())], u2(1) + [253] + u2(0) + [4, 0], descriptor="(I)V")
        self.frames([(2, ("int", "long", OBJECT), ())], u2(1) + [254] + u2(4) + [1, 4, 7] + u2(3))

    def test_all_of_them(self):
        self.frames([(0, (), ())], u2(1) + [255] + u2(0, 0, 0), descriptor="(I)V")
        self.frames([(2, ("long", "top"), ("null", OBJECT, "int"))],
                    u2(1) + [255] + u2(4, 2) + [4, 0] + u2(3) + [5, 7] + u2(3) + [1], descriptor="(I)V")

    def test_other_tags(self):
        for tag in (128, 200, 246):
            self.uncut(0, u2(1) + [tag])
            self.uncut(0, u2(1) + [tag] + u2(0) + [1, 1, 1])


class Entries(MapCase):
    def test_each(self):
        for data, entry in (([0], "top"), ([1], "int"), ([4], "long"), ([5], "null"), ([6], "this"), ([7] + u2(3), OBJECT),
                            ([7] + u2(14), ("object", "[I")), ([8] + u2(1), ("new", 1)), ([8] + u2(0), ("new", 0)),
                            ([8] + u2(4), ("new", 2))):
            self.frames([(0, (), (entry,))], u2(1) + [64] + data)
            self.frames([(0, (entry,), ())], u2(1) + [252] + u2(0) + data)
            self.frames([(0, (entry,), (entry,))], u2(1) + [255] + u2(0, 1) + data + u2(1) + data)

    def test_floats(self):
        for byte in (2, 3):
            for data in ([64, byte], [247] + u2(0) + [byte], [252] + u2(0) + [byte], [254] + u2(0) + [1, 1, byte],
                         [255] + u2(0, 1) + [byte], [255] + u2(0, 0, 1) + [byte]):
                self.out(u2(1) + data)

    def test_other_bytes(self):
        for byte in (9, 10, 100, 255):
            self.uncut(0, u2(1) + [64, byte])
            self.uncut(1, u2(2) + [0, 64, byte])

    def test_links(self):
        for index in (0, 2, 18, 19, 21, 40, 65535):
            self.uncut(0, u2(1) + [64, 7] + u2(index))

    def test_new_where_no_instruction_begins(self):
        for at in (2, 3, 125, 65535):
            self.uncut(0, u2(1) + [64, 8] + u2(at))
        self.frames([(0, (), (("new", 122),))], u2(1) + [64, 8] + u2(124))

    def test_the_first_wrong_one(self):
        self.out(u2(1) + [253] + u2(0) + [2, 9])
        self.uncut(0, u2(1) + [253] + u2(0) + [9, 2])
        self.uncut(0, u2(1) + [255] + u2(0, 1) + [9] + u2(1) + [2])
        self.out(u2(2) + [64, 2, 200])
        self.uncut(0, u2(2) + [200, 64, 2])


class Places(MapCase):
    def test_one_behind_the_other(self):
        self.frames([(0, (), ()), (1, (), ()), (2, (), ()), (3, (), ()), (5, (), ())], u2(5) + [0, 0, 2, 0, 1])
        self.frames([(1, (), ()), (2, (), ("int",)), (122, (), ())], u2(3) + [1] + [66, 1] + [251] + u2(119))

    def test_where_no_instruction_begins(self):
        for data in ([2], [3], [251] + u2(2), [251] + u2(125), [251] + u2(65535), [66, 1], [247] + u2(3) + [1],
                     [252] + u2(2) + [1], [255] + u2(2, 0, 0)):
            self.uncut(0, u2(1) + data)
        self.uncut(1, u2(2) + [0, 1])
        self.uncut(1, u2(2) + [1, 0])
        self.uncut(1, u2(2) + [251] + u2(124) + [0])

    def test_the_place_is_looked_at_behind_the_entries(self):
        self.out(u2(1) + [66, 2])
        self.out(u2(1) + [255] + u2(2, 1) + [3])
        self.out(u2(1) + [255] + u2(125, 0, 1) + [3])

    def test_locals_ahead(self):
        """Those of the frame ahead, as they were told."""
        data = u2(6) + [252] + u2(0) + [1] + [0] + [66, 5] + [250] + u2(0) + [253] + u2(0) + [0, 0] + [0]
        self.frames([(0, ("int",), ()), (1, ("int",), ()), (2, ("int",), ("null",)), (3, (), ()), (4, ("top", "top"), ()),
                     (5, ("top", "top"), ())], data)
        data = u2(2) + [255] + u2(0, 2) + [4, 1] + u2(1) + [1] + [250] + u2(0)
        self.frames([(0, ("long", "int"), ("int",)), (1, ("long",), ())], data)

    def test_the_beginning_of_the_method(self):
        self.frames([(0, (("object", "A"),), ())], u2(1) + [0], flags=0)
        self.frames([(0, ("this", "long"), ())], u2(1) + [0], flags=0, name=26, descriptor="(J)V")
        self.frames([(0, (("object", "A"), "int", ("object", "[J")), ())], u2(1) + [0], flags=0, descriptor="(Z[J)V")
        self.frames([(0, ("int", "int", "int", "int", "long", ("object", "A")), ())], u2(1) + [0], descriptor="(BSCIJLA;)V")
        self.frames([(0, (), ())], u2(1) + [0], flags=8, name=32)

    def test_the_beginning_of_an_init_of_object(self):
        changes = {"own": u2(3), "method flags": u2(0), "method name": u2(26), "map": u2(1) + [2]}
        self.assertEqual(self.made(changes).methods[0][3].frames, ((2, (OBJECT,), ()),))


class Many(MapCase):
    def test_255_entries(self):
        for many in (255, 256, 300, 65535):
            told = min(many, 300)
            data = u2(1) + [255] + u2(0, many) + [1] * told + u2(0)
            stack = u2(1) + [255] + u2(0, 0, many) + [1] * told
            if many <= 255:
                self.frames([(0, ("int",) * many, ())], data)
                self.frames([(0, (), ("int",) * many)], stack)
            else:
                self.uncut(0, data)
                self.uncut(0, stack)

    def test_255_with_those_ahead(self):
        first = [255] + u2(0, 254) + [0] * 254 + u2(0)
        self.frames([(0, ("top",) * 254, ()), (1, ("top",) * 254 + ("int",), ())], u2(2) + first + [252] + u2(0) + [1])
        self.uncut(1, u2(2) + first + [253] + u2(0) + [1, 1])

    def test_they_are_counted_ahead_of_what_they_are(self):
        self.uncut(0, u2(1) + [255] + u2(0, 256) + [2] * 256 + u2(0))


class Ends(MapCase):
    def test_too_short(self):
        for data in ([], [0]):
            self.uncut(0, data)
        whole = u2(2) + [255] + u2(0, 1) + [7] + u2(3) + u2(1) + [8] + u2(1) + [66, 7] + u2(3)
        first = len(whole) - 4
        self.frames([(0, (OBJECT,), (("new", 1),)), (2, (OBJECT,), (OBJECT,))], u2(2) + whole[2:first] + [67] + whole[-3:])
        for many in range(2, first):
            self.uncut(0, whole[:many])
        for many in range(first, len(whole)):
            self.uncut(1, whole[:many])
        for tag in (247, 248, 251, 252):
            self.uncut(0, u2(1) + [tag])
            self.uncut(0, u2(1) + [tag, 0])

    def test_too_long(self):
        self.uncut(0, u2(0) + [0])
        self.uncut(1, u2(1) + [0, 0])
        self.uncut(2, u2(2) + [0, 0, 9, 9])

    def test_a_wrong_frame_goes_ahead(self):
        self.uncut(0, u2(1) + [200, 0, 0])
        self.uncut(1, u2(3) + [0, 200])

    def test_instructions_go_ahead(self):
        code = read(self.draft([9], code=[18, 0]).data).methods[0][3]
        self.assertEqual(code, Uncut("sort", 0))

    def test_two_maps_of_two_codes(self):
        made = self.made({"map": u2(1) + [2]})
        self.assertEqual(made.methods[0][3].frames, ((2, (), ()),))
        self.assertEqual(self.made({"map": u2(1) + [2], "map length": u4(3)}), made)


if __name__ == "__main__":
    unittest.main()
