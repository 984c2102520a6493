"""Every instruction of [2.4], taken and refused by a Code."""

import unittest

from helpers import FormCase, code, no_integers, no_rows, no_strings, odd_things

ALONE = (
    "aconst_null iadd isub imul idiv irem ineg iand ior ixor ishl ishr iushr"
    " ladd lsub lmul ldiv lrem lneg land lor lxor lshl lshr lushr i2l l2i i2b i2c i2s lcmp"
    " arraylength iaload laload aaload baload caload saload iastore lastore aastore bastore castore sastore"
    " athrow monitorenter monitorexit nop pop pop2 dup dup_x1 dup_x2 dup2 dup2_x1 dup2_x2 swap"
    " ireturn lreturn areturn return").split()
LOCALS = "iload lload aload istore lstore astore".split()
JUMPS = (
    "ifeq ifne iflt ifge ifgt ifle if_icmpeq if_icmpne if_icmplt if_icmpge if_icmpgt if_icmple"
    " if_acmpeq if_acmpne ifnull ifnonnull goto").split()
FIELDS = "getstatic putstatic getfield putfield".split()
CALLS = "invokevirtual invokespecial invokestatic invokeinterface invokespecial_i invokestatic_i".split()
TYPES = "class checkcast instanceof".split()

# One right instruction of each word.
RIGHT = (
    [(word,) for word in ALONE]
    + [(word, 3) for word in LOCALS]
    + [(word, 0) for word in JUMPS]
    + [(word, "p/A", "f", "[J") for word in FIELDS]
    + [(word, "p/A", "m", "(IJ)V") for word in CALLS]
    + [(word, "p/A") for word in TYPES]
    + [("iconst", 5), ("lconst", 5), ("string", "a b"), ("iinc", 3, -4), ("switch", [(1, 0)], 1), ("new", "p/A"),
       ("newarray", "I"), ("anewarray", "p/A"), ("multianewarray", "[[I", 2)])


class InstructionCase(FormCase):
    def taken(self, row):
        made = code([row, ("return",)])
        self.assertEqual(made.rows[1], ("return",))
        if row[0] == "switch":
            self.assertEqual(made.rows[0], ("switch", tuple(row[1]), row[2]))
        else:
            self.assertEqual(made.rows[0], row)

    def wrong(self, thing, why="instruction"):
        self.refused(why, 0, code, [thing, ("return",)])
        self.refused(why, 1, code, [("return",), thing])


class All(InstructionCase):
    def test_each_is_taken(self):
        self.assertEqual(len({row[0] for row in RIGHT}), len(RIGHT))
        self.assertEqual(len(RIGHT), 106)
        for row in RIGHT:
            self.taken(row)

    def test_an_argument_too_many(self):
        for row in RIGHT:
            for more in (0, "A", None, (), row[-1]):
                self.wrong(row + (more,))

    def test_an_argument_too_few(self):
        for row in RIGHT:
            if len(row) > 1:
                self.wrong(row[:-1])
                self.wrong(row[:1])
                self.wrong(row[:1] + row[2:])

    def test_arguments_of_other_kinds(self):
        for row in RIGHT:
            for place in range(1, len(row)):
                others = no_rows() if row[0] == "switch" and place == 1 else no_strings() + odd_things()
                if isinstance(row[place], int):
                    others = no_integers()
                for other in others:
                    self.wrong(row[:place] + (other,) + row[place + 1:])

    def test_no_tuples(self):
        for row in RIGHT:
            for thing in (list(row), row[0], (row,), [row], {row[0]: 1}):
                self.wrong(thing)
        for thing in no_strings():
            self.wrong(thing)

    def test_no_words(self):
        for word in ("", "fadd", "dload", "jsr", "ret", "goto_w", "wide", "ldc", "invokedynamic", "tableswitch",
                     "lookupswitch", "bipush", "iconst_0", "ILOAD", "nop ", " nop", "nop\n", "l2b", "lushr_", "wrong",
                     "invokeinterface_i", "invokevirtual_i", "icmp", "if_icmp", "ificmpeq", "iload_0", "faload"):
            for arguments in ((), (0,), ("A",), ("A", "m", "()V")):
                self.wrong((word,) + arguments)
        for word in no_strings():
            self.wrong((word,))
            self.wrong((word, 0))


class Numbers(InstructionCase):
    def bounds(self, row, place, low, high):
        for number, right in ((low, True), (high, True), (low - 1, False), (high + 1, False), (10 ** 5000, False),
                              (-10 ** 5000, False)):
            changed = row[:place] + (number,) + row[place + 1:]
            if right:
                self.taken(changed)
            else:
                self.wrong(changed)

    def test_constants(self):
        self.bounds(("iconst", 0), 1, -2 ** 31, 2 ** 31 - 1)
        self.bounds(("lconst", 0), 1, -2 ** 63, 2 ** 63 - 1)

    def test_locals(self):
        for word in LOCALS:
            self.bounds((word, 0), 1, 0, 255)

    def test_iinc(self):
        self.bounds(("iinc", 0, 0), 1, 0, 255)
        self.bounds(("iinc", 0, 0), 2, -32768, 32767)

    def test_true_and_false_are_no_integers(self):
        for thing in (True, False):
            for row in (("iconst", thing), ("lconst", thing), ("iload", thing), ("iinc", thing, 0), ("iinc", 0, thing),
                        ("goto", thing), ("switch", [(thing, 0)], 1), ("switch", [(0, thing)], 1),
                        ("switch", [], thing), ("multianewarray", "[I", thing)):
                self.wrong(row)


class Strings(InstructionCase):
    def test_texts(self):
        every = "".join(chr(number) for number in range(32, 127) if number != 37)
        for text in ("", " ", "~", "a", "A b.c;[", "<init>", "\"", "'", "\\", every):
            self.taken(("string", text))

    def test_signs_that_no_text_has(self):
        for sign in ("%", "\n", "\t", "\x00", "\x1f", "\x7f", "\x80", "\u00e9", "\u20ac", "\ud800", "\U0001f600"):
            self.wrong(("string", sign))
            self.wrong(("string", "a" + sign))
            self.wrong(("string", sign + "a"))

    def test_at_most_200_characters(self):
        self.taken(("string", "a" * 200))
        self.wrong(("string", "a" * 201))


class Jumps(InstructionCase):
    def test_targets(self):
        for word in JUMPS:
            self.taken((word, 0))
            self.taken((word, 1))
            for target in (-1, 2, 65536, 10 ** 5000, -10 ** 5000):
                self.wrong((word, target), "jump")

    def test_a_jump_to_the_last_of_many(self):
        code([("goto", 9)] + [("return",)] * 9)
        self.refused("jump", 0, code, [("goto", 10)] + [("return",)] * 9)


class Switches(InstructionCase):
    def test_pairs_are_kept_as_tuples(self):
        for pairs in ([], (), [(1, 0)], ((1, 0),), [(-2 ** 31, 0), (0, 0), (2 ** 31 - 1, 0)]):
            self.taken(("switch", pairs, 1))
            made = code([("switch", pairs, 1), ("return",)])
            self.assertIs(type(made.rows[0][1]), tuple)

    def test_pairs_are_tuples_of_two_integers(self):
        for pair in ([1, 0], (1,), (1, 0, 0), (), 1, "10", None, (1, "0"), ("1", 0), (1, None), (None, 0), (1.0, 0),
                     (1, 0.0), (2 ** 31, 0), (-2 ** 31 - 1, 0)):
            self.wrong(("switch", [pair], 1))
            self.wrong(("switch", [(-5, 0), pair], 1))
            self.wrong(("switch", (pair, (7, 0)), 1))

    def test_integers_ascend(self):
        self.taken(("switch", [(-1, 0), (0, 0), (1, 0)], 1))
        for numbers in ((0, 0), (1, 0), (-1, -2), (1, 2, 2), (1, 3, 2)):
            self.wrong(("switch", [(number, 0) for number in numbers], 1), "pairs")

    def test_no_pair_leads_where_all_others_lead(self):
        self.wrong(("switch", [(1, 0)], 0), "pairs")
        self.wrong(("switch", [(1, 1)], 1), "pairs")
        self.wrong(("switch", [(1, 0), (2, 1), (3, 0)], 1), "pairs")
        self.wrong(("switch", [(1, 9)], 9), "pairs")

    def test_targets(self):
        for target in (-1, 2, 10 ** 5000):
            self.wrong(("switch", [], target), "jump")
            self.wrong(("switch", [(1, target)], 0), "jump")
            self.wrong(("switch", [(1, 0), (2, target)], 1), "jump")
            self.wrong(("switch", [(1, 0)], target), "jump")

    def test_a_target_may_be_any_integer_for_the_first_word(self):
        self.wrong(("switch", [(1, 10 ** 30)], 0), "jump")

    def test_order_of_the_words(self):
        self.wrong(("switch", [(2, -1), (1, None)], 0), "instruction")
        self.wrong(("switch", [(2, -1), (1, 0)], 0), "pairs")
        self.wrong(("switch", [(1, -1), (2, 0)], 0), "pairs")

    def test_a_list_within_is_not_kept(self):
        pairs = [(1, 0)]
        made = code([("switch", pairs, 1), ("return",)])
        pairs.append((0, 1))
        self.assertEqual(made.rows[0], ("switch", ((1, 0),), 1))


class Members(InstructionCase):
    def test_classes_of_fields(self):
        for word in FIELDS:
            for name in ("A", "p/A", "Object", "I"):
                self.taken((word, name, "f", "I"))
            for name in ("[I", "[LA;", "LA;", "", "p/", "a" * 31):
                self.wrong((word, name, "f", "I"))

    def test_names_of_fields(self):
        for word in FIELDS:
            self.taken((word, "A", "a" * 30, "I"))
            for name in ("", "a" * 31, "p/f", "<init>", "<clinit>", "f "):
                self.wrong((word, "A", name, "I"))

    def test_descriptors_of_fields(self):
        for word in FIELDS:
            for descriptor in ("Z", "B", "S", "C", "I", "J", "LA;", "Lp/A;", "[I", "[[[[[LA;"):
                self.taken((word, "A", "f", descriptor))
            for descriptor in ("", "V", "F", "D", "A", "()V", "[", "[V", "[[[[[[I", "LA", "II", "I ", "LA;;", "LAB"):
                self.wrong((word, "A", "f", descriptor))

    def test_classes_of_methods(self):
        for word in CALLS:
            for name in ("A", "p/A", "I"):
                self.taken((word, name, "m", "()V"))
            for name in ("[I", "[[[[[LA;"):
                if word == "invokevirtual":
                    self.taken((word, name, "m", "()V"))
                else:
                    self.wrong((word, name, "m", "()V"))
            for name in ("", "LA;", "[", "[V", "[A", "[[[[[[I", "p/", "[I;"):
                self.wrong((word, name, "m", "()V"))

    def test_names_of_methods(self):
        for word in CALLS:
            self.taken((word, "A", "a" * 30, "()V"))
            for name in ("", "a" * 31, "p/m", "<clinit>", "<init", "init>", "< init>", "<INIT>"):
                self.wrong((word, "A", name, "()V"))

    def test_init_is_for_invokespecial_alone_with_the_result_v(self):
        for word in CALLS:
            if word == "invokespecial":
                self.taken((word, "A", "<init>", "()V"))
                self.taken((word, "A", "<init>", "(IJLA;)V"))
            else:
                self.wrong((word, "A", "<init>", "()V"))
            for descriptor in ("()I", "()LA;", "(V)V", "I", ""):
                self.wrong((word, "A", "<init>", descriptor))

    def test_descriptors_of_methods(self):
        for word in CALLS:
            for descriptor in ("()V", "()I", "(J)[LA;", "(" + "I" * 254 + ")V"):
                self.taken((word, "A", "m", descriptor))
            for descriptor in ("", "I", "V", "()", "(V)V", "()V ", "(" + "I" * 255 + ")V", "(F)V", "LA;"):
                self.wrong((word, "A", "m", descriptor))


class Types(InstructionCase):
    def test_type_names(self):
        for word in TYPES:
            for name in ("A", "p/A", "I", "V", "[I", "[J", "[[LA;", "[[[[[I", "a" * 30):
                self.taken((word, name))
            for name in ("", "LA;", "[", "[V", "[A", "[[[[[[I", "a" * 31, "[I ", "p//A", "()V", "[LA", "[F"):
                self.wrong((word, name))

    def test_new(self):
        for name in ("A", "p/A", "Object"):
            self.taken(("new", name))
        for name in ("[I", "[LA;", "LA;", "", "p/"):
            self.wrong(("new", name))

    def test_newarray(self):
        for letter in "ZBSCIJ":
            self.taken(("newarray", letter))
        for letter in ("", "V", "F", "D", "L", "A", "ZB", "IJ", "[I", "LA;", "i", "ZBSCIJ", "I "):
            self.wrong(("newarray", letter))

    def test_anewarray(self):
        for name in ("A", "p/A", "[I", "[LA;", "[[[[I", "[[[[LA;"):
            self.taken(("anewarray", name))
        for name in ("", "LA;", "[[[[[I", "[[[[[LA;", "[[[[[[I", "[A", "[", "[["):
            self.wrong(("anewarray", name))

    def test_multianewarray(self):
        for brackets in range(1, 6):
            for last in ("I", "J", "Lp/A;"):
                for number in range(1, brackets + 1):
                    self.taken(("multianewarray", "[" * brackets + last, number))
                for number in (-1, 0, brackets + 1, 255, 10 ** 5000):
                    self.wrong(("multianewarray", "[" * brackets + last, number))
        for name in ("A", "p/A", "I", "", "LA;", "[A", "[", "[[[[[[I"):
            for number in (0, 1, 2):
                self.wrong(("multianewarray", name, number))


if __name__ == "__main__":
    unittest.main()
