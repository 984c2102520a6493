"""Bytes of codes that are cut into instructions: [7.9], [7.10]."""

import unittest

from drafts import Draft, DraftCase, text, u1, u2, u4
from typegate.classes import Code, Uncut
from typegate.errors import NoClass
from typegate.files import read

PLAIN = {}
for first, words in (
        (0, "nop aconst_null"), (46, "iaload laload"), (50, "aaload baload caload saload"), (79, "iastore lastore"),
        (83, "aastore bastore castore sastore"), (87, "pop pop2 dup dup_x1 dup_x2 dup2 dup2_x1 dup2_x2 swap"),
        (96, "iadd ladd"), (100, "isub lsub"), (104, "imul lmul"), (108, "idiv ldiv"), (112, "irem lrem"), (116, "ineg lneg"),
        (120, "ishl lshl ishr lshr iushr lushr iand land ior lor ixor lxor"), (133, "i2l"), (136, "l2i"),
        (145, "i2b i2c i2s lcmp"), (172, "ireturn lreturn"), (176, "areturn return"), (190, "arraylength athrow"),
        (194, "monitorenter monitorexit")):
    for number, word in enumerate(words.split()):
        PLAIN[first + number] = (word,)
for number in range(7):
    PLAIN[2 + number] = ("iconst", number - 1)
for number in range(2):
    PLAIN[9 + number] = ("lconst", number)
for first, word in ((26, "iload"), (30, "lload"), (42, "aload"), (59, "istore"), (63, "lstore"), (75, "astore")):
    for number in range(4):
        PLAIN[first + number] = (word, number)
LOCALS = {21: "iload", 22: "lload", 25: "aload", 54: "istore", 55: "lstore", 58: "astore"}
JUMPS = dict(enumerate("ifeq ifne iflt ifge ifgt ifle if_icmpeq if_icmpne if_icmplt if_icmpge if_icmpgt if_icmple if_acmpeq"
                       " if_acmpne goto".split(), 153))
JUMPS.update({198: "ifnull", 199: "ifnonnull"})
OTHERS = (16, 17, 18, 19, 20, 132, 170, 171, 178, 179, 180, 181, 182, 183, 184, 185, 187, 188, 189, 192, 193, 196, 197, 200)
LEFT_OUT = [k for k in range(202) if k not in PLAIN and k not in LOCALS and k not in JUMPS and k not in OTHERS]


class CutCase(DraftCase):
    def cuts(self, expected, data, more=()):
        """The instruction that some bytes are, behind and ahead of a nop."""
        for begin in (0, 1):
            code = self.code([0] * begin + data + [0], more)
            self.assertEqual(code.rows[begin:-1], (expected,), data)

    def uncut(self, why, at, data, more=()):
        self.assertEqual(self.code(data, more), Uncut(why, at), data)

    def out(self, at, data):
        changes = {"bytes": data}
        self.wrong("out", "bytes", changes, at)


class Forms(CutCase):
    def test_plain_ones(self):
        for byte, row in PLAIN.items():
            self.cuts(row, [byte])

    def test_all_are_told(self):
        self.assertEqual(LEFT_OUT, [11, 12, 13, 14, 15, 23, 24, *range(34, 42), 48, 49, 56, 57, *range(67, 75), 81, 82, 98, 99,
                                    102, 103, 106, 107, 110, 111, 114, 115, 118, 119, 131 + 3, 135, *range(137, 145),
                                    149, 150, 151, 152, 168, 169, 174, 175, 186, 201])

    def test_numbers(self):
        for number in (-128, -1, 0, 127):
            self.cuts(("iconst", number), [16] + u1(number))
        for number in (-32768, -1, 0, 1, 32767):
            self.cuts(("iconst", number), [17] + u2(number))

    def test_constants(self):
        for index, row in ((9, ("iconst", 7)), (19, ("string", "x y")), (1, ("class", "A")), (14, ("class", "[I"))):
            self.cuts(row, [18, index])
            self.cuts(row, [19] + u2(index))
        self.cuts(("lconst", 2 ** 32 + 2), [20] + u2(17))
        for index in (0, 2, 17, 18, 21, 22, 23, 25, 40, 255):
            self.uncut("sort", 1, [0, 18, index])
            self.uncut("sort", 1, [0, 19] + u2(index))
        for index in (0, 9, 18, 19, 1, 40, 65535):
            self.uncut("sort", 0, [20] + u2(index))

    def test_locals(self):
        for byte, word in LOCALS.items():
            for number in (0, 3, 4, 255):
                self.cuts((word, number), [byte, number])
                self.cuts((word, number), [196, byte] + u2(number))
            for number in (256, 65535):
                self.uncut("local", 1, [0, 196, byte] + u2(number))
        for more in (-128, -1, 0, 127):
            for number in (0, 255):
                self.cuts(("iinc", number, more), [132, number] + u1(more))
        for more in (-32768, -129, -1, 128, 32767):
            for number in (0, 255):
                self.cuts(("iinc", number, more), [196, 132] + u2(number, more))
            self.uncut("local", 0, [196, 132] + u2(256, more))

    def test_jumps(self):
        for byte, word in JUMPS.items():
            self.assertEqual(self.code([0, byte] + u2(-1) + [0]).rows[1], (word, 0))
            self.assertEqual(self.code([0, byte] + u2(0) + [0]).rows[1], (word, 1))
            self.assertEqual(self.code([0, byte] + u2(4) + [0, 0]).rows[1], (word, 3))
            for distance in (1, 2, -2, 4, 32767, -32768):
                self.uncut("jump", 1, [0, byte] + u2(distance) + [0])
        self.assertEqual(self.code([0, 200] + u4(-1) + [0]).rows[1], ("goto", 0))
        self.assertEqual(self.code([0, 200] + u4(5) + [0]).rows[1], ("goto", 2))
        for distance in (1, 2, 3, 4, 6, -2, 2 ** 31 - 1, -2 ** 31):
            self.uncut("jump", 1, [0, 200] + u4(distance) + [0])

    def test_fields(self):
        for byte, word in ((178, "getstatic"), (179, "putstatic"), (180, "getfield"), (181, "putfield")):
            self.cuts((word, "A", "f", "I"), [byte] + u2(21))
            for index in (0, 1, 22, 23, 25, 40):
                self.uncut("sort", 0, [byte] + u2(index))

    def test_calls(self):
        self.cuts(("invokevirtual", "A", "m", "()V"), [182] + u2(23))
        self.cuts(("invokevirtual", "[I", "m", "()V"), [182] + u2(31))
        self.cuts(("invokespecial", "A", "m", "()V"), [183] + u2(23))
        self.cuts(("invokespecial", "A", "<init>", "()V"), [183] + u2(28))
        self.cuts(("invokespecial_i", "I", "m", "()V"), [183] + u2(25))
        self.cuts(("invokestatic", "A", "m", "()V"), [184] + u2(23))
        self.cuts(("invokestatic_i", "I", "m", "(IJ)V"), [184] + u2(37))
        self.cuts(("invokeinterface", "I", "m", "()V"), [185] + u2(25) + [1, 0])
        self.cuts(("invokeinterface", "I", "m", "(IJ)V"), [185] + u2(37) + [4, 0])
        for byte, wrong in ((182, (28, 25)), (183, (31,)), (184, (28, 31)), (185, (23, 28, 31))):
            for index in (*wrong, 0, 1, 21, 24, 40):
                self.uncut("sort", 0, [byte] + u2(index) + ([1, 0] if byte == 185 else []))

    def test_counts_of_invokeinterface(self):
        for count, last in ((0, 0), (2, 0), (1, 1), (1, 255)):
            self.uncut("count", 0, [185] + u2(25) + [count, last])
        for count in (3, 5):
            self.uncut("count", 0, [185] + u2(37) + [count, 0])
        self.uncut("sort", 0, [185] + u2(23) + [9, 9])

    def test_classes(self):
        for byte, word in ((189, "anewarray"), (192, "checkcast"), (193, "instanceof"), (187, "new")):
            self.cuts((word, "A"), [byte] + u2(1))
            for index in (0, 2, 19, 21, 40):
                self.uncut("sort", 0, [byte] + u2(index))
        for byte, word in ((189, "anewarray"), (192, "checkcast"), (193, "instanceof")):
            self.cuts((word, "[I"), [byte] + u2(14))
        self.uncut("sort", 0, [187] + u2(14))
        self.cuts(("checkcast", "[[[[[J"), [192] + u2(30))
        self.cuts(("instanceof", "[[[[[J"), [193] + u2(30))
        self.uncut("count", 0, [189] + u2(30))

    def test_arrays(self):
        for number, letter in ((4, "Z"), (5, "C"), (8, "B"), (9, "S"), (10, "I"), (11, "J")):
            self.cuts(("newarray", letter), [188, number])
        for number in (0, 1, 3, 12, 255):
            self.uncut("count", 1, [0, 188, number])
        for number in (1, 2, 5):
            self.cuts(("multianewarray", "[[[[[J", number), [197] + u2(30) + [number])
        self.cuts(("multianewarray", "[I", 1), [197] + u2(14) + [1])
        for index, number in ((30, 0), (30, 6), (14, 2), (14, 255), (1, 1), (1, 0)):
            self.uncut("count", 0, [197] + u2(index) + [number])
        self.uncut("sort", 0, [197] + u2(2) + [1])


class Switches(CutCase):
    def test_tables_at_every_alignment(self):
        for begin in range(9):
            padding = [7] * (3 - begin % 4)
            size = 1 + len(padding) + 12 + 12
            data = [0] * begin + [170] + padding + u4(size + 1, -1, 1, size, size + 1, 0) + [0, 0]
            self.assertEqual(self.code(data).rows[begin], ("switch", ((-1, begin + 1), (1, begin)), begin + 2))
            size = 1 + len(padding) + 8 + 16
            data = [0] * begin + [171] + padding + u4(size, 2) + u4(-5, 0, 5, size + 1) + [0, 0]
            self.assertEqual(self.code(data).rows[begin], ("switch", ((-5, begin), (5, begin + 2)), begin + 1))

    def test_bounds_of_keys(self):
        size = 4 + 8 + 16
        code = self.code([171, 0, 0, 0] + u4(size, 2, -2 ** 31, 0, 2 ** 31 - 1, 0) + [0])
        self.assertEqual(code.rows[0], ("switch", ((-2 ** 31, 0), (2 ** 31 - 1, 0)), 1))
        code = self.code([170, 0, 0, 0] + u4(24, 2 ** 31 - 2, 2 ** 31 - 1, 0, 24) + [0])
        self.assertEqual(code.rows[0], ("switch", ((2 ** 31 - 2, 0),), 1))
        code = self.code([170, 0, 0, 0] + u4(20, -2 ** 31, -2 ** 31, 0) + [0])
        self.assertEqual(code.rows[0], ("switch", ((-2 ** 31, 0),), 1))

    def test_no_pairs(self):
        self.assertEqual(self.code([171, 0, 0, 0] + u4(0, 0)).rows, (("switch", (), 0),))
        self.assertEqual(self.code([170, 0, 0, 0] + u4(0, 5, 5, 0)).rows, (("switch", (), 0),))

    def test_tables_upside_down(self):
        self.uncut("switch", 0, [170, 0, 0, 0] + u4(0, 1, 0))
        self.uncut("switch", 0, [170, 0, 0, 0] + u4(0, 1, 0, 0, 0, 0))
        self.uncut("switch", 0, [170, 0, 0, 0] + u4(0, 2 ** 31 - 1, -2 ** 31))
        self.uncut("cut", 0, [170, 0, 0, 0] + u4(0, 1) + [0, 0, 0])
        self.uncut("cut", 0, [170, 0, 0, 0] + u4(0, -2 ** 31, 2 ** 31 - 1))

    def test_numbers_of_pairs(self):
        for number in (-1, -2 ** 31):
            self.uncut("switch", 0, [171, 0, 0, 0] + u4(0, number))
        self.uncut("cut", 0, [171, 0, 0, 0] + u4(0, 2 ** 31 - 1))
        self.uncut("cut", 0, [171, 0, 0, 0] + u4(0, 1, 5) + [0, 0, 0])

    def test_keys_that_do_not_ascend(self):
        for one, other in ((1, 1), (2, 1), (0, -1), (2 ** 31 - 1, -2 ** 31)):
            self.uncut("switch", 1, [0, 171, 0, 0] + u4(0, 2, one, 0, other, 0))
        for one, other, third in ((1, 3, 2), (1, 2, 2), (2, 1, 3)):
            self.uncut("switch", 1, [0, 171, 0, 0] + u4(0, 3, one, 0, other, 0, third, 0))
        self.assertEqual(self.code([171, 0, 0, 0] + u4(0, 3, 1, 0, 2, 0, 3, 0)).rows, (("switch", (), 0),))
        # Only when the instruction is whole.
        self.uncut("cut", 0, [171, 0, 0, 0] + u4(0, 2, 1, 0, 1) + [0, 0, 0])
        self.uncut("switch", 0, [171, 0, 0, 0] + u4(0, 2, 1, 99, 1, 99))

    def test_jumps(self):
        self.uncut("jump", 0, [171, 0, 0, 0] + u4(1, 1, 5, 0))
        self.uncut("jump", 0, [171, 0, 0, 0] + u4(0, 1, 5, 1))
        self.uncut("jump", 0, [170, 0, 0, 0] + u4(1, 5, 5, 0))
        self.uncut("jump", 0, [170, 0, 0, 0] + u4(0, 5, 5, 20))
        self.uncut("jump", 0, [170, 0, 0, 0] + u4(0, 5, 5, -1))


class LeftOut(CutCase):
    def test_first_bytes(self):
        for byte in LEFT_OUT:
            self.out(0, [byte, 177, 177, 177])
            self.out(3, [0, 0, 0, byte])

    def test_behind_wide(self):
        for byte in (23, 24, 56, 57, 169):
            self.out(1, [196, byte, 177, 177])
            self.out(3, [0, 0, 196, byte])

    def test_behind_newarray(self):
        for byte in (6, 7):
            self.out(1, [188, byte, 177, 177])
            self.out(3, [0, 0, 188, byte])

    def test_what_is_wrong_ahead_of_it(self):
        self.uncut("opcode", 0, [202, 11])
        self.out(1, [0, 11, 202, 0])
        # Jumps are looked at when all is cut.
        self.out(3, [167, 0, 2, 11])
        self.out(2, [188, 12, 11, 0])
        self.uncut("local", 0, [196, 21] + u2(256) + [11])


class Opcodes(CutCase):
    def test_first_bytes(self):
        for byte in range(202, 256):
            self.uncut("opcode", 0, [byte])
            self.uncut("opcode", 2, [0, 0, byte, 0])

    def test_behind_wide(self):
        for byte in range(256):
            if byte not in (21, 22, 25, 54, 55, 58, 132, 23, 24, 56, 57, 169):
                self.uncut("opcode", 1, [0, 196, byte])


class Cuts(CutCase):
    SIZES = {16: 2, 17: 3, 18: 2, 19: 3, 20: 3, 132: 3, 178: 3, 179: 3, 180: 3, 181: 3, 182: 3, 183: 3, 184: 3, 185: 5, 187: 3,
             188: 2, 189: 3, 192: 3, 193: 3, 197: 4, 200: 5, **{byte: 2 for byte in LOCALS}, **{byte: 3 for byte in JUMPS}}

    def test_each_form_that_is_not_whole(self):
        for byte, size in self.SIZES.items():
            for many in range(size - 1):
                self.uncut("cut", 1, [0, byte] + [0] * many)
            # Whole ones go wrong in another way, or not at all.
            code = self.code([0, byte] + [0] * (size - 1))
            self.assertFalse(isinstance(code, Uncut) and code.why == "cut", byte)

    def test_wide_ones(self):
        self.uncut("cut", 0, [196])
        for byte in LOCALS:
            self.uncut("cut", 0, [196, byte])
            self.uncut("cut", 0, [196, byte, 1])
        for many in range(4):
            self.uncut("cut", 0, [196, 132] + [1] * many)

    def test_switches(self):
        for byte in (170, 171):
            for many in range(11):
                self.uncut("cut", 0, [byte] + [0] * many)

    def test_a_cut_goes_ahead_of_what_is_wrong_behind_the_cutting(self):
        self.uncut("cut", 3, [167, 0, 1, 17, 0])
        self.uncut("cut", 2, [18, 0, 17])

    def test_the_first_instruction(self):
        self.uncut("opcode", 0, [255, 17])
        self.uncut("cut", 0, [17])
        self.uncut("jump", 0, [167, 0, 1, 18, 0])
        self.uncut("sort", 0, [18, 0, 167, 0, 1])
        self.uncut("count", 0, [188, 0, 18, 0])
        self.uncut("sort", 2, [188, 4, 18, 0, 188, 0])


class Handlers(CutCase):
    def handlers(self, *told, data=(17, 0, 0, 177)):
        return self.code(list(data), {"handlers": u2(len(told)), "handler": [byte for row in told for byte in u2(*row)]})

    def test_right_ones(self):
        code = self.handlers((0, 3, 3, 0), (0, 4, 0, 1), (3, 4, 3, 3))
        self.assertEqual(code.handlers, ((0, 1, 1, None), (0, 2, 0, "A"), (1, 2, 1, "Object")))

    def test_wrong_ones(self):
        for row in ((1, 3, 0, 0), (0, 2, 0, 0), (0, 1, 0, 0), (0, 3, 1, 0), (0, 4, 2, 0)):
            self.assertEqual(self.handlers(row), Uncut("handler", 0))
            self.assertEqual(self.handlers((0, 3, 3, 0), row), Uncut("handler", 1))

    def test_instructions_go_ahead(self):
        self.assertEqual(self.handlers((1, 3, 0, 0), data=(17, 0, 0, 18, 0)), Uncut("sort", 3))
        self.assertEqual(self.handlers((1, 3, 0, 0), data=(17, 0, 0, 17)), Uncut("cut", 3))

    def test_a_map_goes_behind(self):
        told = {"handlers": u2(1), "handler": u2(1, 3, 0, 0), "code attributes": u2(1), "map name": u2(13),
                "map length": u4(1), "map": [0]}
        self.assertEqual(self.code([17, 0, 0, 177], told), Uncut("handler", 0))
        told["handler"] = u2(0, 3, 0, 0)
        self.assertEqual(self.code([17, 0, 0, 177], told), Uncut("map", 0))


class Others(CutCase):
    def test_an_uncut_code_is_kept_in_its_class(self):
        made = self.made({"bytes": [202, 177, 87, 177]})
        self.assertEqual(made.methods, (("m", "()V", ("public", "static"), Uncut("opcode", 0)),))

    def test_at_is_counted_from_the_first_byte_of_the_code(self):
        self.uncut("opcode", 3, [0, 0, 0, 203])

    def test_a_long_code(self):
        data = [0] * 65534 + [177]
        self.assertEqual(len(self.code(data).rows), 65535)
        self.assertEqual(self.code([200] + u4(65534) + [0] * 65529 + [177]).rows[0], ("goto", 65530))
        draft = Draft({16: text("x"), "bytes": [0] * 65535 + [177]})
        self.raises(NoClass, {"at": draft.places["length"], "why": "code"}, read, draft.data)

    def test_it_is_a_code(self):
        self.assertEqual(self.code([177]), Code(2, 3, [("return",)], [], []))


if __name__ == "__main__":
    unittest.main()
