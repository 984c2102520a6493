import unittest

from helpers import no_strings
from typegate.errors import NoDescriptor
from typegate.names import is_class_name, is_name, parameters, result

LETTERS = "abcdefghijklmnopqrstuvwxyzABCDEFGHIJKLMNOPQRSTUVWXYZ"
DIGITS = "0123456789"
# Signs that Python counts as letters, digits or blanks, or that stand beside the right ones.
WRONG_SIGNS = ["\n", "\r", "\t", "\x00", " ", "/", ".", ";", "[", "(", ")", "<", ">", "-", ":", "@", "`", "{", "#", "^",
               "%", "&", "'", "~", "\x7f", "\u00e9", "\u00df", "\u00aa", "\u00b2", "\u00bd", "\u0131", "\u0130",
               "\u0430", "\u0391", "\u0661", "\u0967", "\uff10", "\uff21", "\uff3f", "\u2160", "\u017f", "\u212a",
               "\u203f", "\ud800", "\U0001d7ce", "\U0001d400"]


class Names(unittest.TestCase):
    def test_ordinary_names(self):
        for name in ("a", "Z", "0", "_", "$", "go", "A$1", "__x", "9lives", "Object", "class", "None"):
            self.assertIs(is_name(name), True, name)

    def test_every_right_sign(self):
        for sign in LETTERS + DIGITS + "_$":
            self.assertIs(is_name(sign), True, sign)
            self.assertIs(is_class_name(sign), True, sign)

    def test_every_wrong_sign(self):
        for sign in WRONG_SIGNS:
            for thing in (sign, "a" + sign, sign + "a", "a" + sign + "b"):
                self.assertIs(is_name(thing), False, repr(thing))

    def test_no_other_sign_is_right(self):
        right = [number for number in range(0x3000) if is_name(chr(number))]
        self.assertEqual(right, sorted(ord(sign) for sign in LETTERS + DIGITS + "_$"))

    def test_lengths(self):
        for length, wanted in ((0, False), (1, True), (29, True), (30, True), (31, False), (1000, False)):
            self.assertIs(is_name("a" * length), wanted, length)

    def test_things_that_are_no_strings(self):
        for thing in no_strings():
            self.assertIs(is_name(thing), False)
            self.assertIs(is_class_name(thing), False)

    def test_special_names_are_no_names(self):
        self.assertIs(is_name("<init>"), False)
        self.assertIs(is_name("<clinit>"), False)
        self.assertIs(is_class_name("<init>"), False)


class ClassNames(unittest.TestCase):
    def test_ordinary_class_names(self):
        for name in ("A", "p/A", "a/b/c/D", "p/A$1", "_/$", "1/2"):
            self.assertIs(is_class_name(name), True, name)
        self.assertIs(is_name("p/A"), False)

    def test_each_part_is_a_name(self):
        for name in ("", "/", "/A", "A/", "p//A", "p/A/", "p/A ", "p /A", "p/A\n", "p.A", "[I", "LA;", "p/[A"):
            self.assertIs(is_class_name(name), False, name)

    def test_wrong_signs_in_parts(self):
        for sign in WRONG_SIGNS:
            if sign != "/":
                self.assertIs(is_class_name("p/" + sign), False, repr(sign))
                self.assertIs(is_class_name(sign + "/A"), False, repr(sign))

    def test_parts_have_1_to_30_characters(self):
        self.assertIs(is_class_name("a" * 30), True)
        self.assertIs(is_class_name("a" * 31), False)
        self.assertIs(is_class_name("p/" + "a" * 30), True)
        self.assertIs(is_class_name("p/" + "a" * 31), False)
        self.assertIs(is_class_name("a" * 31 + "/A"), False)

    def test_the_whole_has_at_most_60_characters(self):
        self.assertIs(is_class_name("a" * 30 + "/" + "b" * 28), True)
        self.assertIs(is_class_name("a" * 30 + "/" + "b" * 29), True)
        self.assertIs(is_class_name("a" * 30 + "/" + "b" * 30), False)
        self.assertIs(is_class_name("a/" * 29 + "bc"), True)
        self.assertIs(is_class_name("a/" * 30 + "b"), False)


class Descriptors(unittest.TestCase):
    def taken(self, descriptor, wanted, last):
        found = parameters(descriptor)
        self.assertIs(type(found), list)
        self.assertEqual(found, wanted)
        self.assertEqual(result(descriptor), last)

    def refused(self, thing):
        for function in (parameters, result):
            with self.assertRaises(NoDescriptor):
                function(thing)

    def test_the_example(self):
        self.taken("(I[JLp/A;)V", ["I", "[J", "Lp/A;"], "V")

    def test_ordinary_descriptors(self):
        self.taken("()V", [], "V")
        self.taken("()I", [], "I")
        self.taken("(ZBSCIJ)J", ["Z", "B", "S", "C", "I", "J"], "J")
        self.taken("(LA;LB;[LC;)[[Lp/q/D;", ["LA;", "LB;", "[LC;"], "[[Lp/q/D;")
        self.taken("([[I[[[LL;J)LV;", ["[[I", "[[[LL;", "J"], "LV;")

    def test_arguments_by_name(self):
        self.assertEqual(parameters(descriptor="(J)Z"), ["J"])
        self.assertEqual(result(descriptor="(J)Z"), "Z")

    def test_each_call_gives_a_new_list(self):
        parameters("(I)V").append("J")
        self.assertEqual(parameters("(I)V"), ["I"])

    def test_v_stands_alone_as_a_result(self):
        for descriptor in ("(V)V", "(IV)V", "([V)V", "()[V", "()VV", "()VI", "()IV"):
            self.refused(descriptor)

    def test_at_most_5_brackets_stand_together(self):
        for last in ("I", "J", "LA;"):
            self.taken("([[[[[" + last + ")V", ["[[[[[" + last], "V")
            self.taken("()[[[[[" + last, [], "[[[[[" + last)
            self.refused("([[[[[[" + last + ")V")
            self.refused("()[[[[[[" + last)
        self.taken("([[[[[I[[[[[I)[[[[[I", ["[[[[[I", "[[[[[I"], "[[[[[I")

    def test_at_most_254_places(self):
        self.taken("(" + "I" * 254 + ")V", ["I"] * 254, "V")
        self.refused("(" + "I" * 255 + ")V")
        self.taken("(" + "J" * 127 + ")J", ["J"] * 127, "J")
        self.refused("(" + "J" * 127 + "I)V")
        self.refused("(I" + "J" * 127 + ")V")
        self.refused("(" + "J" * 128 + ")V")
        self.taken("(J" + "I" * 252 + ")V", ["J"] + ["I"] * 252, "V")
        self.refused("(J" + "I" * 253 + ")V")

    def test_arrays_and_classes_take_one_place(self):
        self.taken("(" + "[J" * 254 + ")V", ["[J"] * 254, "V")
        self.refused("(" + "[J" * 255 + ")V")
        self.taken("(" + "LJ;" * 254 + ")V", ["LJ;"] * 254, "V")
        self.refused("(" + "LJ;" * 255 + ")V")

    def test_class_names_in_descriptors(self):
        long_name = "a" * 30 + "/" + "b" * 29
        self.taken("(L" + long_name + ";)V", ["L" + long_name + ";"], "V")
        for name in (long_name + "b", "", "/", "a/", "/a", "a//b", "a.b", "a b", "[I", "<init>", "a\n", "\u00e9"):
            self.refused("(L" + name + ";)V")
            self.refused("()L" + name + ";")

    def test_what_is_cut_or_goes_on(self):
        for thing in ("", "(", ")", "()", "(I", "(I)", "(LA)V", "(LA", "(LA;", "(L;)V", "(L)V", "([)V", "()[", "()L", "()LA",
                      "I", "V", "LA;", "[I", "A", "()V ", " ()V", "()V\n", "()I\n", "()LA;\n", "()LA;;", "()II", "()V)",
                      "(()V", "())V", "(I))V", "(I,I)V", "( I)V", "(i)V", "(F)V", "(D)V", "()D", "()v", "(T)V",
                      "I)V", ")I)V", "I)V)V", "[I)V", "A()V", "(QA;)V", "()QA;", "(lA;)V", "(TA;)V", "(;A;)V", "()[QA;",
                      "(LAB", "LAB", "()LAB", "(A)V", "(\u0399)V", "()\uff29", "(LA;", "(I)[", "(I)[[[[["):
            self.refused(thing)

    def test_things_that_are_no_texts(self):
        for thing in no_strings():
            self.refused(thing)
        self.refused(["(", ")", "V"])
        self.refused(b"()V")

    def test_long_strings_take_no_long_time(self):
        for thing in ("(" + "I" * 200000 + ")V", "(" + "LA;" * 100000 + ")V", "[" * 200000, "(" + "[" * 200000 + "I)V",
                      "(L" + "a" * 200000 + ";)V", "(" + "L" * 200000, "a" * 200000, "a/" * 100000):
            self.refused(thing)
            self.assertIs(is_class_name(thing), False)


if __name__ == "__main__":
    unittest.main()
