"""Classes that are written as bytes: [7.12] to [7.14]."""

import itertools
import random
import unittest

from drafts import Draft, DraftCase, text, u2, u4
from helpers import code, face, file, odd_things
from test_cutting import JUMPS, LOCALS, PLAIN
from typegate.classes import ClassFile, Code, Uncut
from typegate.errors import NoClass, NoFile, NoWriting
from typegate.files import read, written
from typegate.forms import fault
from typegate.instructions import ARGUMENTS

HEAD = [202, 254, 186, 190, 0, 0, 0, 52]


class WriteCase(DraftCase):
    def both(self, made):
        data = written(made)
        self.assertEqual(read(data), made)
        self.assertEqual(written(read(data)), data)
        return data

    def writes(self, made, entries, body):
        """The pool's entries, one list of bytes each or None for the second index of a long, and what stands behind."""
        data = self.both(made)
        told = HEAD + u2(len(entries) + 1) + [byte for entry in entries if entry for byte in entry] + body
        self.assertEqual(data, told)

    def instructions(self, rows, stack=255, places=255, **more):
        """The bytes of the instructions of a method with these rows."""
        made = file(methods=[("m", "()V", ["static"], Code(stack, places, rows, [], []))], **more)
        data = self.both(made)
        begin = self.place_of_code(data)
        size = int.from_bytes(bytes(data[begin + 10:begin + 14]), "big")
        return data[begin + 14:begin + 14 + size]

    def place_of_code(self, data):
        """Where the attribute Code of the first method begins."""
        at, indexes = self.pool(data)
        at += 6
        at += 2 + 2 * int.from_bytes(bytes(data[at:at + 2]), "big")
        self.assertEqual(data[at:at + 4], u2(0, 1))
        return at + 4 + 8

    def pool(self, data):
        """Where the pool ends, and the indexes of its entries with their places."""
        many = int.from_bytes(bytes(data[8:10]), "big")
        at, index, found = 10, 1, {}
        while index < many:
            found[index] = at
            tag = data[at]
            size = {3: 5, 5: 9, 7: 3, 8: 3, 9: 5, 10: 5, 11: 5, 12: 5}.get(tag)
            at += 3 + int.from_bytes(bytes(data[at + 1:at + 3]), "big") if tag == 1 else size
            index += 2 if tag == 5 else 1
        return at, found


class Parts(WriteCase):
    def test_the_example(self):
        self.assertEqual(written(ClassFile("A", "Object", (), ("public",), (), ())), [
            202, 254, 186, 190, 0, 0, 0, 52, 0, 5, 7, 0, 2, 1, 0, 1, 65, 7, 0, 4, 1, 0, 6, 79, 98, 106, 101, 99, 116, 0, 33, 0, 1,
            0, 3, 0, 0, 0, 0, 0, 0, 0, 0])

    def test_flags_of_classes(self):
        for words, number in (((), 32), (("public",), 33), (("final",), 48), (("abstract",), 1056),
                              (("public", "final"), 49), (("public", "abstract"), 1057)):
            data = self.both(file(flags=words))
            self.assertEqual(data[-14:-12], u2(number))
        for words, number in ((("abstract", "interface"), 1536), (("public", "abstract", "interface"), 1537)):
            self.assertEqual(self.both(face(flags=words))[-14:-12], u2(number))

    def test_interfaces(self):
        self.writes(file(interfaces=["I", "A"]), [[7] + u2(2), text("A"), [7] + u2(4), text("Object"), [7] + u2(6), text("I")],
                    u2(33, 1, 3, 2, 5, 1, 0, 0, 0))

    def test_object(self):
        made = ClassFile("Object", None, (), (), (), ())
        self.writes(made, [[7] + u2(2), text("Object")], u2(32, 1, 0, 0, 0, 0, 0))

    def test_fields(self):
        fields = [("f", "I", ["static"], None), ("g", "J", ["public", "static", "final"], 5), ("h", "I", ["private", "static"], -2),
                  ("i", "LString;", ["protected", "static"], "f"), ("j", "I", ["final"], None)]
        self.writes(file(parent="A", fields=fields), [
            [7] + u2(2), text("A"), text("f"), text("I"), text("g"), text("J"), text("ConstantValue"), [5] + u4(0, 5), None,
            text("h"), [3] + u4(-2), text("i"), text("LString;"), [8] + u2(3), text("j")],
            u2(33, 1, 1, 0, 5) + u2(8, 3, 4, 0) + u2(25, 5, 6, 1, 7) + u4(2) + u2(8) + u2(10, 10, 4, 1, 7) + u4(2) + u2(11)
            + u2(12, 12, 13, 1, 7) + u4(2) + u2(14) + u2(16, 15, 4, 0) + u2(0, 0))

    def test_methods(self):
        methods = [("m", "()V", ["public", "native"], None), ("n", "()V", ["abstract", "protected"], None),
                   ("<init>", "()V", ["private"], code(places=1)), ("<clinit>", "()V", ["static"], code()),
                   ("s", "()V", ["static", "final", "synchronized"], code(stack=3))]
        def told(stack, places):
            return u2(stack, places) + u4(1) + [177] + u2(0, 0)
        self.writes(file(parent="A", flags=["abstract"], methods=methods), [
            [7] + u2(2), text("A"), text("m"), text("()V"), text("n"), text("<init>"), text("Code"), text("<clinit>"), text("s")],
            u2(1056, 1, 1, 0, 0, 5) + u2(257, 3, 4, 0) + u2(1028, 5, 4, 0) + u2(2, 6, 4, 1, 7) + u4(13) + told(0, 1)
            + u2(8, 8, 4, 1, 7) + u4(13) + told(0, 0) + u2(56, 9, 4, 1, 7) + u4(13) + told(3, 0) + u2(0))

    def test_a_code_with_all_its_parts(self):
        made = Code(1, 2, [("aload", 0), ("ifnull", 3), ("return",), ("return",), ("athrow",)],
                    [(0, 2, 4, "Error"), (0, 5, 4, None)], [(3, [("object", "A")], []), (4, [], [("object", "Throwable")])])
        self.writes(file(parent="A", methods=[("m", "()V", [], made)]), [
            [7] + u2(2), text("A"), text("m"), text("()V"), text("Code"), [7] + u2(7), text("Error"), text("StackMapTable"),
            [7] + u2(10), text("Throwable")],
            u2(33, 1, 1, 0, 0, 1) + u2(0, 3, 4, 1, 5) + u4(2 + 2 + 4 + 7 + 2 + 16 + 2 + 6 + 2 + 1 + 10) + u2(1, 2) + u4(7)
            + [42, 198, 0, 4, 177, 177, 191] + u2(2) + u2(0, 4, 6, 6) + u2(0, 7, 6, 0) + u2(1) + u2(8) + u4(13)
            + u2(2) + [5] + [255] + u2(0, 0, 1) + [7] + u2(9) + u2(0))


class Pools(WriteCase):
    def test_the_order_of_what_is_needed(self):
        rows = [("getstatic", "B", "f", "I"), ("invokeinterface", "I", "m", "(I)V"), ("lconst", 7), ("string", "s"),
                ("invokestatic", "B", "m", "()V"), ("lconst", 7), ("class", "[I"), ("getfield", "B", "f", "I"), ("return",)]
        made = file(parent="A", methods=[("m", "()V", ["static"], Code(9, 0, rows, [], []))])
        entries = [[7] + u2(2), text("A"), text("m"), text("()V"), text("Code"),
                   [9] + u2(7, 9), [7] + u2(8), text("B"), [12] + u2(10, 11), text("f"), text("I"),
                   [11] + u2(13, 14), [7] + u2(11), [12] + u2(3, 15), text("(I)V"), [5] + u4(0, 7), None, [8] + u2(19), text("s"),
                   [10] + u2(7, 21), [12] + u2(3, 4), [7] + u2(23), text("[I")]
        data = self.both(made)
        told = [byte for entry in entries if entry for byte in entry]
        self.assertEqual(data[10:10 + len(told)], told)
        self.assertEqual(data[8:10], u2(24))
        self.assertEqual(self.instructions(rows), self.instructions(rows))

    def test_links_in_order(self):
        rows = [("new", "B"), ("anewarray", "C"), ("checkcast", "D"), ("instanceof", "E"), ("multianewarray", "[LF;", 1)]
        data = self.instructions(rows)
        self.assertEqual(data, [187] + u2(8) + [189] + u2(10) + [192] + u2(12) + [193] + u2(14) + [197] + u2(16) + [1])

    def test_equal_ones_are_one(self):
        for rows in ([("string", "A")], [("class", "A")], [("string", "m")]):
            at, found = self.pool(self.both(file(methods=[("m", "()V", ["static"], Code(9, 0, rows + [("return",)], [], []))])))
            self.assertEqual(len(found), 7 if rows[0][0] == "class" else 8)

    def test_ints_and_longs_are_not_one(self):
        rows = [("iconst", 40000), ("lconst", 40000), ("iconst", 40000), ("lconst", 40000), ("return",)]
        self.assertEqual(self.instructions(rows), [18, 8, 20, 0, 9, 18, 8, 20, 0, 9, 177])


class Forms(WriteCase):
    def bytes_of(self, row):
        data = self.instructions([row, ("return",)])
        self.assertEqual(data[-1], 177)
        return data[:-1]

    def test_plain_ones(self):
        for byte, row in PLAIN.items():
            self.assertEqual(self.bytes_of(row), [byte])

    def test_iconst(self):
        for number, data in ((-2, [16, 254]), (6, [16, 6]), (-128, [16, 128]), (127, [16, 127]), (-129, [17, 255, 127]),
                             (128, [17, 0, 128]), (-32768, [17, 128, 0]), (32767, [17, 127, 255]), (32768, [18, 8]),
                             (-32769, [18, 8]), (2 ** 31 - 1, [18, 8]), (-2 ** 31, [18, 8])):
            self.assertEqual(self.bytes_of(("iconst", number)), data)

    def test_lconst(self):
        for number in (2, -1, 2 ** 63 - 1, -2 ** 63, 2 ** 32):
            self.assertEqual(self.bytes_of(("lconst", number)), [20, 0, 8])

    def test_long_links(self):
        """Constants behind the index 255: the class, its parent, the method and Code have 7 entries."""
        many = [("string", "s" + str(k)) for k in range(124)]
        for row in (("iconst", 99999), ("string", "x"), ("class", "X")):
            rows = many + [row, row, ("return",)]
            data = self.instructions(rows)
            self.assertEqual(data[-7:], [19, 1, 0, 19, 1, 0, 177])
            rows = many[:-1] + [("iconst", 88888), row, ("return",)]
            self.assertEqual(self.instructions(rows)[-5:], [18, 254, 18, 255, 177])
        self.assertEqual(self.instructions(many + [("lconst", 9), ("string", "s0"), ("return",)])[-6:], [20, 1, 0, 18, 8, 177])

    def test_locals(self):
        for byte, word in LOCALS.items():
            for number in (4, 255):
                self.assertEqual(self.bytes_of((word, number)), [byte, number])
        for more, data in ((0, [132, 255, 0]), (127, [132, 255, 127]), (-128, [132, 255, 128]), (128, [196, 132, 0, 255, 0, 128]),
                           (-129, [196, 132, 0, 255, 255, 127]), (32767, [196, 132, 0, 255, 127, 255])):
            self.assertEqual(self.bytes_of(("iinc", 255, more)), data)

    def test_members(self):
        for byte, row in ((178, ("getstatic", "B", "f", "I")), (179, ("putstatic", "B", "f", "I")), (180, ("getfield", "B", "f", "I")),
                          (181, ("putfield", "B", "f", "I")), (182, ("invokevirtual", "B", "f", "()I")),
                          (183, ("invokespecial", "B", "<init>", "()V")), (183, ("invokespecial_i", "B", "f", "()I")),
                          (184, ("invokestatic", "B", "f", "()I")), (184, ("invokestatic_i", "B", "f", "()I")),
                          (182, ("invokevirtual", "[LB;", "f", "()I"))):
            self.assertEqual(self.bytes_of(row), [byte, 0, 8])
        for descriptor, count in (("()V", 1), ("(I)V", 2), ("(JLA;[J)V", 5)):
            self.assertEqual(self.bytes_of(("invokeinterface", "B", "f", descriptor)), [185, 0, 8, count, 0])

    def test_arrays(self):
        for letter, number in (("Z", 4), ("C", 5), ("B", 8), ("S", 9), ("I", 10), ("J", 11)):
            self.assertEqual(self.bytes_of(("newarray", letter)), [188, number])
        self.assertEqual(self.bytes_of(("multianewarray", "[[I", 2)), [197, 0, 8, 2])


class Jumps(WriteCase):
    def test_short_ones(self):
        for byte, word in JUMPS.items():
            self.assertEqual(self.instructions([("nop",), (word, 0), (word, 3), ("nop",)]),
                             [0, byte, 255, 255, byte, 0, 3, 0])

    def test_how_far_they_reach(self):
        for word in ("ifeq", "if_acmpne", "ifnull"):
            byte = {name: number for number, name in JUMPS.items()}[word]
            rows = [(word, 32765)] + [("nop",)] * 32764 + [("return",)]
            self.assertEqual(self.instructions(rows)[:3], [byte, 127, 255])
            rows = [("nop",)] * 32768 + [(word, 0)]
            self.assertEqual(self.instructions(rows)[-3:], [byte, 128, 0])
            for far in ([(word, 32766)] + [("nop",)] * 32766, [("nop",)] * 32769 + [(word, 0)]):
                made = file(methods=[("a", "()V", ["static"], code()), ("m", "()V", ["static"], Code(1, 1, far, [], []))])
                self.raises(NoWriting, {"why": "jump", "method": 1}, written, made)

    def test_gotos(self):
        rows = [("goto", 32765)] + [("nop",)] * 32764 + [("return",)]
        self.assertEqual(self.instructions(rows)[:3], [167, 127, 255])
        rows = [("goto", 32766)] + [("nop",)] * 32765 + [("return",)]
        self.assertEqual(self.instructions(rows)[:5], [200, 0, 0, 128, 2])
        rows = [("nop",)] * 32769 + [("goto", 0)]
        self.assertEqual(self.instructions(rows)[-5:], [200, 255, 255, 127, 255])

    def test_gotos_that_make_others_longer(self):
        # The first one just reaches as long as the second one, which stands between, is short.
        for second, bytes_of in ((32769, (167, 167)), (32770, (200, 200))):
            rows = [("goto", 32763)] + [("nop",)] * 3 + [("goto", second)] + [("nop",)] * 32765 + [("return",)]
            data = self.instructions(rows)
            self.assertEqual((data[0], data[6 if data[0] == 167 else 8]), bytes_of)

    def test_one_that_became_long_stays_so(self):
        """All that do not reach get the long form at once; then the distances are told anew."""
        for begin in (0, 1):
            # A switch behind the first goto has less padding when this one is longer.
            rows = [("nop",)] * begin + [("goto", 32700)] + [("switch", (), begin)] + [("nop",)] * 33000 + [("return",)]
            for many in (32751, 32752, 32753, 32754, 32755, 32756):
                rows[begin] = ("goto", many)
                data = self.instructions(rows)
                size = 3 - (begin + 3) % 4
                reaches = 3 + 1 + size + 8 + (many - begin - 2) <= 32767
                self.assertEqual(data[begin], 167 if reaches else 200, (begin, many))

    def test_large(self):
        rows = [("nop",)] * 65534 + [("return",)]
        self.assertEqual(len(self.instructions(rows)), 65535)
        for rows in ([("nop",)] * 65533 + [("iconst", 9), ("return",)], [("iconst", 9)] * 65535,
                     [("goto", 65532)] + [("nop",)] * 65531 + [("return",)]):
            made = file(methods=[("m", "()V", ["static"], Code(1, 1, rows, [], []))])
            self.raises(NoWriting, {"why": "large", "method": 0}, written, made)

    def test_jump_goes_ahead_of_large(self):
        rows = [("ifeq", 65000)] + [("iconst", 9)] * 65000
        made = file(methods=[("m", "()V", ["static"], Code(1, 1, rows, [], []))])
        self.raises(NoWriting, {"why": "jump", "method": 0}, written, made)
        # A switch and a goto reach everywhere.
        rows = [("switch", ((1, 65000),), 0), ("goto", 65000)] + [("iconst", 9)] * 65000
        made = file(methods=[("m", "()V", ["static"], Code(1, 1, rows, [], []))])
        self.raises(NoWriting, {"why": "large", "method": 0}, written, made)


class Switches(WriteCase):
    def switch(self, pairs, begin=3):
        """The bytes of a switch that begins at an index with so little padding, all its pairs leading to it."""
        rows = [("nop",)] * begin + [("switch", tuple((key, begin) for key in pairs), begin + 1), ("return",)]
        return self.instructions(rows)[begin:-1]

    def test_none(self):
        self.assertEqual(self.switch(()), [171] + u4(9, 0))

    def test_the_shorter_one(self):
        self.assertEqual(self.switch((5,)), [170] + u4(17, 5, 5, 0))
        self.assertEqual(self.switch((5, 6)), [170] + u4(21, 5, 6, 0, 0))
        # Two pairs take as many bytes as a table of three, and fewer than one of four.
        self.assertEqual(self.switch((5, 7)), [170] + u4(25, 5, 7, 0, 25, 0))
        self.assertEqual(self.switch((5, 8)), [171] + u4(25, 2, 5, 0, 8, 0))
        self.assertEqual(self.switch((1, 2, 5)), [170] + u4(33, 1, 5, 0, 0, 33, 33, 0))
        self.assertEqual(self.switch((1, 2, 3, 4, 10))[:5], [171] + u4(49))
        self.assertEqual(self.switch((1, 2, 3, 4, 9))[:5], [170] + u4(49))
        self.assertEqual(self.switch((1, 2, 6)), [171] + u4(33, 3, 1, 0, 2, 0, 6, 0))

    def test_least_and_greatest_keys(self):
        self.assertEqual(self.switch((-2 ** 31, 2 ** 31 - 1)), [171] + u4(25, 2, -2 ** 31, 0, 2 ** 31 - 1, 0))
        self.assertEqual(self.switch((2 ** 31 - 2, 2 ** 31 - 1)), [170] + u4(21, 2 ** 31 - 2, 2 ** 31 - 1, 0, 0))

    def test_padding(self):
        for begin in range(9):
            padding = [0] * (3 - begin % 4)
            self.assertEqual(self.switch((5, 6), begin), [170] + padding + u4(21 + len(padding), 5, 6, 0, 0))
            self.assertEqual(self.switch((5, 99), begin), [171] + padding + u4(25 + len(padding), 2, 5, 0, 99, 0))

    def test_far_targets(self):
        rows = [("switch", ((1, 40001),), 0)] + [("nop",)] * 40000 + [("return",)]
        self.assertEqual(self.instructions(rows)[:20], [170, 0, 0, 0] + u4(0, 1, 1, 40020))


class Maps(WriteCase):
    def map(self, frames, descriptor="()V", many=200, flags=("static",), name="m"):
        rows = [("nop",)] * (many - 1) + [("return",)]
        rows[1] = ("new", "A")
        made = file(methods=[(name, descriptor, flags, Code(9, 20, rows, [], frames))])
        data = self.both(made)
        return self.inside(data, many)

    def inside(self, data, many):
        """What stands in the map: the instructions take two bytes more, as one of them is a new."""
        begin = self.place_of_code(data) + 14 + many + 2 + 2
        self.assertEqual(data[begin:begin + 2], u2(1))
        size = int.from_bytes(bytes(data[begin + 4:begin + 8]), "big")
        return data[begin + 8:begin + 8 + size]

    def told(self, frames, data, **more):
        self.assertEqual(self.map(frames, **more), u2(len(frames)) + data)

    def test_the_same_locals(self):
        self.told([(0, [], [])], [0])
        self.told([(61, [], [])], [63])
        self.told([(62, [], [])], [251, 0, 64])
        self.told([(197, [], [])], [251, 0, 199])
        self.told([(0, ["int"], [])], [0], descriptor="(I)V")

    def test_one_on_the_stack(self):
        self.told([(0, [], ["int"])], [64, 1])
        self.told([(61, [], ["long"])], [127, 4])
        self.told([(62, [], ["null"])], [247, 0, 64, 5])

    def test_fewer_locals(self):
        more = {"descriptor": "(IJIJ)V"}
        self.told([(0, ["int", "long", "int"], [])], [250, 0, 0], **more)
        self.told([(0, ["int", "long"], [])], [249, 0, 0], **more)
        self.told([(0, ["int"], [])], [248, 0, 0], **more)
        self.told([(0, [], [])], [255, 0, 0, 0, 0, 0, 0], **more)
        self.told([(0, ["int"], ["int"])], [255, 0, 0, 0, 1, 1, 0, 1, 1], **more)
        self.told([(0, ["long"], [])], [255, 0, 0, 0, 1, 4, 0, 0], **more)

    def test_more_locals(self):
        more = {"descriptor": "(I)V"}
        self.told([(5, ["int", "top"], [])], [252, 0, 7, 0], **more)
        self.told([(5, ["int", "top", "long"], [])], [253, 0, 7, 0, 4], **more)
        self.told([(5, ["int", "top", "long", "null"], [])], [254, 0, 7, 0, 4, 5], **more)
        self.told([(5, ["int", "top", "long", "null", "int"], [])], [255, 0, 7, 0, 5, 1, 0, 4, 5, 1, 0, 0], **more)
        self.told([(5, ["int", "top"], ["int"])], [255, 0, 7, 0, 2, 1, 0, 0, 1, 1], **more)
        self.told([(5, ["long", "top"], [])], [255, 0, 7, 0, 2, 4, 0, 0, 0], **more)

    def test_others(self):
        self.told([(0, [], ["int", "int"])], [255, 0, 0, 0, 0, 0, 2, 1, 1])
        self.told([(0, ["long"], [])], [255, 0, 0, 0, 1, 4, 0, 0], descriptor="(I)V")

    def test_one_behind_the_other(self):
        self.told([(0, [], []), (1, [], []), (2, ["int"], []), (4, ["int"], ["int"]), (5, [], []), (100, ["null"], [])],
                  [0, 0, 252, 0, 2, 1, 65, 1, 250, 0, 0, 252, 0, 94, 5])

    def test_entries(self):
        self.told([(0, [], [("new", 1)])], [64, 8, 0, 1])
        self.told([(2, [], ["top"])], [68, 0])
        self.told([(2, [], [("object", "A")])], [68, 7, 0, 1])
        self.told([(0, ["this"], [])], [0], name="<init>", flags=())
        self.told([(0, [("object", "A")], ["this"])], [255, 0, 0, 0, 1, 7, 0, 1, 0, 1, 6], name="<init>", flags=())
        self.told([(0, [("object", "A")], [])], [0], flags=())

    def test_what_tells_the_same_otherwise(self):
        """Locals as they are told, also with "top" behind them."""
        self.told([(0, ["top"], [])], [252, 0, 0, 0])
        self.told([(0, ["top"], []), (1, [], [])], [252, 0, 0, 0, 250, 0, 0])


class Refused(WriteCase):
    def test_no_files(self):
        for thing in [one for one in odd_things() if not isinstance(one, ClassFile)] + [None, 0, "", [], ()]:
            self.raises(NoFile, {}, written, thing)

    def test_form(self):
        for made in (file(flags=["static"]), file(parent=None), file(methods=[("m", "()V", (), None)]),
                     file(methods=[("m", "()V", ["native"], Uncut("map", 0))])):
            self.assertIsNotNone(fault(made))
            self.raises(NoWriting, {"why": "form", "method": -1}, written, made)

    def test_uncut(self):
        uncut = ("u", "()V", ["static"], Uncut("cut", 0))
        far = ("f", "()V", ["static"], Code(1, 1, [("ifeq", 40000)] + [("nop",)] * 40000, [], []))
        large = ("l", "()V", ["static"], Code(1, 1, [("iconst", 9)] * 40000, [], []))
        right = ("r", "()V", ["static"], code())
        for first, second in itertools.permutations([("uncut", uncut), ("jump", far), ("large", large)], 2):
            made = file(methods=[right, first[1], second[1]])
            self.raises(NoWriting, {"why": first[0], "method": 1}, written, made)
        self.raises(NoWriting, {"why": "form", "method": -1}, written, file(methods=[uncut, uncut]))

    def test_the_pool(self):
        def made(many, last=("nop",)):
            # The class, its parent, the methods' names, descriptor and Code: 5 + 3 entries, and one of a string two.
            rows = [[("string", str(k))] for k in range(many)]
            rows = [row for part in rows for row in part]
            rows.append(last)
            half = len(rows) // 2
            return file(parent="A", methods=[("m", "()V", ["static"], Code(1, 0, rows[:half] + [("return",)], [], [])),
                                             ("n", "()V", ["static"], Code(1, 0, rows[half:] + [("return",)], [], []))])
        data = written(made(32764))
        self.assertEqual(data[8:10], u2(6 + 2 * 32764 + 1))
        self.assertEqual(read(data), made(32764))
        for wrong in (made(32765), made(32764, ("iconst", 99999)), made(32763, ("lconst", 9)), made(32763, ("string", "text"))):
            if wrong.methods[1][3].rows[-2][0] in ("nop", "iconst"):
                self.raises(NoWriting, {"why": "large", "method": -1}, written, wrong)
            else:
                self.assertEqual(written(wrong)[8:10], u2(65535))

    def test_by_name(self):
        self.assertEqual(read(data=written(file=file())), file())

    def test_the_file_is_not_changed(self):
        made = file(fields=[("f", "I", ["static"], 3)])
        self.assertEqual(written(made), written(made))
        written(made).append(1)
        self.assertEqual(read(written(made)), file(fields=[("f", "I", ["static"], 3)]))


class Facts(WriteCase):
    """[7.13], for classes that are put together by chance, and for files that are changed by chance."""

    CLASSES = ("A", "B", "p/C", "Object")
    TYPES = CLASSES + ("[I", "[[LA;", "[[[[J")
    FIELDS = ("I", "J", "Z", "LA;", "LString;", "[[LObject;")
    METHODS = ("()V", "(I)I", "(JLA;)J", "([I)LObject;")
    NUMBERS = (-1, 0, 5, 6, 127, 128, -129, 32767, 32768, -2 ** 31, 2 ** 31 - 1)

    def argument(self, source, sort, many):
        told = {"class": self.CLASSES, "any class": self.TYPES, "item": self.TYPES, "field": self.FIELDS, "method": self.METHODS,
                "name": ("f", "m"), "name or init": ("f", "m"), "letter": "ZBSCIJ", "int": self.NUMBERS, "string": ("", "x" * 200),
                "long": self.NUMBERS + (2 ** 63 - 1, -2 ** 63), "short": (0, 127, 128, -129, 32767, -32768),
                "local": (0, 3, 4, 255), "jump": range(many), "count": (1,)}
        return source.choice(told[sort])

    def row(self, source, many):
        word = source.choice([one for one in ARGUMENTS if one != "multianewarray"])
        if word == "switch":
            target = source.randrange(many)
            keys = sorted({source.choice([source.randrange(-3, 9), source.choice(self.NUMBERS)]) for _ in range(3)})
            pairs = [(key, source.randrange(many)) for key in keys]
            return (word, tuple(pair for pair in pairs if pair[1] != target), target)
        return (word, *[self.argument(source, sort, many) for sort in ARGUMENTS[word]])

    def entry(self, source, many):
        return source.choice(["top", "int", "long", "null", "this", ("object", source.choice(self.TYPES)),
                              ("new", source.randrange(many))])

    def code(self, source):
        many = source.choice([1, 3, 10, 40])
        frames, places = [], []
        for index in sorted(source.sample(range(many), source.randrange(min(many, 6) + 1))):
            places = source.choice([places, places[:-1], places[:-3], places + [self.entry(source, many)],
                                    [self.entry(source, many) for _ in range(source.randrange(5))]])
            frames.append((index, places, [self.entry(source, many) for _ in range(source.choice([0, 0, 1, 2]))]))
        begin = source.randrange(many)
        handlers = [(begin, source.randrange(begin + 1, many + 1), source.randrange(many), source.choice([None, "A"]))]
        return Code(9, 9, [self.row(source, many) for _ in range(many)], handlers[:source.randrange(2)], frames)

    def made(self, source):
        methods = [("m" + str(k), source.choice(self.METHODS), source.choice([[], ["static"]]), self.code(source))
                   for k in range(source.randrange(3))]
        fields = [("f" + str(k), "I", ["static"], source.choice(self.NUMBERS)) for k in range(source.randrange(3))]
        return file(source.choice(["A", "p/C"]), source.choice(["Object", "B"]), ["I", "q/J"][:source.randrange(3)],
                    fields=fields, methods=methods)

    def test_classes(self):
        source = random.Random(1)
        for _ in range(250):
            self.both(self.made(source))

    def test_files(self):
        source = random.Random(2)
        ways = set()
        for _ in range(2500):
            data = Draft().data if source.random() < 0.5 else written(self.made(source))
            for _ in range(source.choice([1, 2])):
                at = source.randrange(8, len(data))
                data[at:at + source.randrange(2)] = [source.choice([source.randrange(256), source.randrange(12)])]
            try:
                made = read(data)
            except NoClass as wrong:
                self.assertTrue(0 <= wrong.at <= len(data))
                ways.add(wrong.why)
                continue
            try:
                told = written(made)
            except NoWriting as wrong:
                ways.add(wrong.why)
                continue
            ways.add("right")
            self.assertEqual(read(told), made)
            self.assertEqual(written(read(told)), told)
        self.assertLessEqual({"right", "link", "text", "tag", "cut", "uncut", "handler", "length"}, ways)


if __name__ == "__main__":
    unittest.main()
