"""Code and Uncut: [2.2], [2.3], [8.2], [8.3]."""

import unittest

from helpers import PLAIN, FormCase, code, file, no_integers, no_rows, no_strings, odd_things
from typegate.classes import Code, Uncut

RETURN = ("return",)
TWO = [("goto", 1), RETURN]


class Sizes(FormCase):
    def test_stack_and_places(self):
        for size in (0, 1, 254, 255):
            self.assertEqual(Code(size, 7, [RETURN], [], []).stack, size)
            self.assertEqual(Code(7, size, [RETURN], [], []).places, size)
        for size in [-1, 256, 65535, 10 ** 5000] + no_integers():
            self.refused("stack", -1, Code, size, 0, [RETURN], [], [])
            self.refused("places", -1, Code, 0, size, [RETURN], [], [])

    def test_attributes_and_arguments_by_name(self):
        made = Code(frames=[(0, ["int"], ["null"])], handlers=[(0, 1, 0, "E")], rows=[RETURN], places=2, stack=1)
        self.assertEqual((made.stack, made.places, made.rows, made.handlers, made.frames),
                         (1, 2, (RETURN,), ((0, 1, 0, "E"),), ((0, ("int",), ("null",)),)))


class Rows(FormCase):
    def test_no_row(self):
        for thing in no_rows():
            self.refused("rows", -1, Code, 0, 0, thing, [], [])

    def test_one_to_65535(self):
        self.refused("rows", -1, Code, 0, 0, [], [], [])
        self.refused("rows", -1, Code, 0, 0, (), [], [])
        self.assertEqual(len(Code(0, 0, [RETURN], [], []).rows), 1)
        many = [("goto", 65534)] * 65534 + [RETURN]
        self.assertEqual(Code(0, 0, many, [(0, 65535, 65534, None)], [(65534, [], [])]).rows, tuple(many))
        self.refused("rows", -1, Code, 0, 0, many + [RETURN], [], [])
        self.refused("rows", -1, Code, 0, 0, [None] * 65536, [], [])

    def test_many_handlers_frames_and_pairs(self):
        rows = [("switch", [(k, k) for k in range(65534)], 65534)] + [RETURN] * 65534
        handlers = [(k, k + 1, k, None) for k in range(65535)]
        frames = [(k, ["int"], []) for k in range(65535)]
        made = Code(0, 0, rows, handlers, frames)
        self.assertEqual(len(made.rows[0][1]), 65534)
        self.assertEqual(made.handlers[65534], (65534, 65535, 65534, None))
        self.assertEqual(made.frames[65534], (65534, ("int",), ()))

    def test_the_first_wrong_instruction_is_told(self):
        self.refused("instruction", 1, code, [RETURN, None, ("goto", 9)])
        self.refused("jump", 1, code, [RETURN, ("goto", 9), None])
        self.refused("pairs", 0, code, [("switch", [(1, 0)], 0), None, ("goto", 9)])
        self.refused("jump", 0, code, [("goto", 4), RETURN, RETURN, RETURN])
        code([("goto", 3), RETURN, RETURN, RETURN])


class Handlers(FormCase):
    def test_no_row(self):
        for thing in no_rows():
            self.refused("handlers", -1, code, TWO, thing)

    def test_right_ones(self):
        for handler in ((0, 1, 0, None), (0, 2, 1, "E"), (1, 2, 0, "p/E"), (0, 1, 1, "Object")):
            self.assertEqual(code(TWO, [handler]).handlers, (handler,))
            self.assertEqual(code(TWO, (handler, handler)).handlers, (handler, handler))

    def test_no_tuples_of_four(self):
        for thing in no_strings() + ["", "abcd", [0, 1, 0, None], (0, 1, 0), (0, 1, 0, None, None), (), (0, 1)]:
            self.refused("handler", 0, code, TWO, [thing])
            self.refused("handler", 1, code, TWO, [(0, 1, 0, None), thing])

    def test_three_integers(self):
        for thing in no_integers():
            for place in range(3):
                handler = [0, 1, 0, None]
                handler[place] = thing
                self.refused("handler", 0, code, TWO, [tuple(handler)])

    def test_kinds(self):
        for thing in odd_things() + ["", "[I", "[LA;", "LA;", "p/", "any kind", 0, [], (), "a" * 31]:
            self.refused("handler", 0, code, TWO, [(0, 1, 0, thing)])

    def test_bounds(self):
        for begin, end, target in ((-1, 1, 0), (0, 0, 0), (1, 1, 0), (1, 0, 0), (0, 3, 0), (2, 2, 0), (2, 3, 0), (0, 1, 2),
                                   (0, 1, -1), (0, 10 ** 5000, 0), (-10 ** 5000, 1, 0), (0, 1, 10 ** 5000)):
            self.refused("handler", 0, code, TWO, [(begin, end, target, None)])

    def test_the_first_wrong_one_is_told(self):
        self.refused("handler", 1, code, TWO, [(0, 1, 0, None), (0, 0, 0, None), None])


class Frames(FormCase):
    def frame(self, entry):
        return [(1, [entry], ["int", entry])]

    def test_no_row(self):
        for thing in no_rows():
            self.refused("frames", -1, code, TWO, [], thing)

    def test_right_entries(self):
        for entry in ("top", "int", "long", "null", "this", ("new", 0), ("new", 1), ("object", "A"),
                      ("object", "p/A"), ("object", "[I"), ("object", "[[[[[LA;"), ("object", "I")):
            self.assertEqual(code(TWO, [], self.frame(entry)).frames, ((1, (entry,), ("int", entry)),))

    def test_wrong_entries(self):
        things = no_strings() + [
            "", "Int", "int ", "float", "object", "new", "none", "bool", "A", ["object", "A"], ["new", 0], ("object",),
            ("new",), ("object", "A", "A"), ("new", 0, 0), ("int",), ("int", 0), ("this", 0), ("object", "LA;"),
            ("object", ""), ("object", "[A"), ("object", "[[[[[[I"), ("object", None), ("object", ["A"]), ("object", 0),
            ("new", "A"), ("new", True), ("new", False), ("new", None), ("new", -1), ("new", 2), ("new", 10 ** 5000),
            ("new", 0.0), ("New", 0), (None, 0), ([], []), (("new", 0), 0), ("in", "t")]
        for thing in things:
            self.refused("frame", 0, code, TWO, [], [(1, [thing], [])])
            self.refused("frame", 0, code, TWO, [], [(1, [], [thing])])
            self.refused("frame", 1, code, TWO, [], [(0, [], []), (1, ("int", thing), ())])

    def test_no_tuples_of_three(self):
        for thing in no_strings() + ["", "abc", [1, [], []], (1, []), (1, [], [], []), (), (1,)]:
            self.refused("frame", 0, code, TWO, [], [thing])

    def test_indexes(self):
        for index in (0, 1):
            self.assertEqual(code(TWO, [], [(index, [], [])]).frames, ((index, (), ()),))
        for index in [-1, 2, 10 ** 5000] + no_integers():
            self.refused("frame", 0, code, TWO, [], [(index, [], [])])

    def test_locals_and_stack_are_rows(self):
        for thing in no_rows() + ["int"]:
            self.refused("frame", 0, code, TWO, [], [(1, thing, [])])
            self.refused("frame", 0, code, TWO, [], [(1, [], thing)])

    def test_at_most_255_entries(self):
        many = ["long"] * 255
        self.assertEqual(code(TWO, [], [(1, many, many)]).frames, ((1, tuple(many), tuple(many)),))
        self.refused("frame", 0, code, TWO, [], [(1, ["top"] * 256, [])])
        self.refused("frame", 0, code, TWO, [], [(1, [], ["top"] * 256)])

    def test_frames_ascend(self):
        rows = [RETURN] * 5
        self.assertEqual(len(code(rows, [], [(k, [], []) for k in range(5)]).frames), 5)
        self.assertEqual(len(code(rows, [], [(0, [], []), (4, [], [])]).frames), 2)
        self.refused("frame", 1, code, rows, [], [(2, [], []), (2, [], [])])
        self.refused("frame", 1, code, rows, [], [(2, [], []), (1, [], [])])
        self.refused("frame", 2, code, rows, [], [(0, [], []), (2, [], []), (1, [], []), None])


class Order(FormCase):
    def test_the_first_of_all_is_told(self):
        right = [0, 0, [RETURN], [], []]
        wrong = [("stack", -1, None), ("places", -1, None), ("rows", -1, None), ("handlers", -1, None),
                 ("frames", -1, None)]
        deeper = [("stack", -1, 256), ("places", -1, 256), ("jump", 0, [("goto", 1)]), ("handler", 0, [None]),
                  ("frame", 0, [None])]
        for first in range(5):
            for second in range(first + 1, 5):
                for one in (wrong, deeper):
                    for other in (wrong, deeper):
                        arguments = list(right)
                        arguments[first] = one[first][2]
                        arguments[second] = other[second][2]
                        self.refused(one[first][0], one[first][1], Code, *arguments)


class Kept(unittest.TestCase):
    def lists(self):
        return [[("switch", [(3, 0), (5, 2)], 1), RETURN, RETURN], [(0, 1, 2, None), (0, 3, 1, "E")],
                [(1, ["long", ("object", "A")], []), (2, [], ["this"])]]

    def tuples(self):
        return ((("switch", ((3, 0), (5, 2)), 1), RETURN, RETURN), ((0, 1, 2, None), (0, 3, 1, "E")),
                ((1, ("long", ("object", "A")), ()), (2, (), ("this",))))

    def test_lists_and_tuples_give_equal_codes(self):
        self.assertTrue(Code(1, 2, *self.lists()) == Code(1, 2, *self.tuples()))

    def test_all_is_kept_as_tuples(self):
        made = Code(1, 2, *self.lists())
        self.assertEqual((made.rows, made.handlers, made.frames), self.tuples())

    def test_what_is_handed_in_stays_and_may_be_changed(self):
        rows, handlers, frames = self.lists()
        made = Code(1, 2, rows, handlers, frames)
        self.assertEqual([rows, handlers, frames], self.lists())
        rows[0][1].append((9, 0))
        frames[0][1].append("int")
        frames[0][2].append("int")
        for row in (rows, handlers, frames):
            row.clear()
        self.assertEqual((made.rows, made.handlers, made.frames), self.tuples())


class Equality(unittest.TestCase):
    def test_equal_if_all_five_are(self):
        def arguments():
            return [1, 2, [("goto", 1), RETURN], [(0, 1, 1, None)], [(1, ["int"], [])]]
        others = [2, 1, [("goto", 0), RETURN], [(0, 1, 1, "E")], [(1, [], [])]]
        self.assertTrue(Code(*arguments()) == Code(*arguments()))
        self.assertFalse(Code(*arguments()) != Code(*arguments()))
        for place in range(5):
            changed = arguments()
            changed[place] = others[place]
            self.assertFalse(Code(*arguments()) == Code(*changed))
            self.assertTrue(Code(*arguments()) != Code(*changed))

    def test_unequal_to_every_other_object(self):
        for thing in no_strings() + ["", (0, 0, (RETURN,), (), ()), ((RETURN,), (), ()), Uncut("map", 1)]:
            if thing is not PLAIN:
                self.assertFalse(PLAIN == thing)
                self.assertTrue(PLAIN != thing)
                self.assertFalse(thing == PLAIN)


class Uncuts(FormCase):
    WORDS = ("opcode", "cut", "switch", "local", "jump", "sort", "count", "handler", "map")

    def test_words(self):
        for word in self.WORDS:
            for at in (0, 1, 255, 65535, 10 ** 5000):
                made = Uncut(word, at)
                self.assertIs(made.why, word)
                self.assertEqual(made.at, at)
        made = Uncut(at=3, why="sort")
        self.assertEqual((made.why, made.at), ("sort", 3))

    def test_refused(self):
        for why in no_strings() + ["", "Map", "map ", "code", "length", "frame", "twice", "maps", "uncut"]:
            self.refused("uncut", -1, Uncut, why, 0)
            self.refused("uncut", -1, Uncut, why, -1)
        for at in no_integers() + [-1, -10 ** 5000]:
            self.refused("uncut", -1, Uncut, "map", at)

    def test_equality(self):
        self.assertTrue(Uncut("map", 1) == Uncut("map", 1))
        self.assertFalse(Uncut("map", 1) != Uncut("map", 1))
        self.assertFalse(Uncut("map", 1) == Uncut("map", 2))
        self.assertFalse(Uncut("map", 1) == Uncut("cut", 1))
        self.assertTrue(Uncut("map", 1) != Uncut("cut", 1))
        for thing in [("map", 1), ["map", 1], "map", 1, None, PLAIN, file()]:
            self.assertFalse(Uncut("map", 1) == thing)
            self.assertTrue(Uncut("map", 1) != thing)
            self.assertFalse(thing == Uncut("map", 1))


if __name__ == "__main__":
    unittest.main()
