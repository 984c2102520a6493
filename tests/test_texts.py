"""Texts as bytes: [7.7]."""

import inspect
import unittest

from helpers import ErrorCase, no_rows, no_strings
from typegate import texts
from typegate.errors import NoBytes, NoText
from typegate.texts import bytes_text, text_bytes

SIGNS = [chr(number) for number in range(32, 127) if chr(number) != "%"]


class TextBytes(ErrorCase):
    def test_texts(self):
        for text, data in (("", []), ("A", [65]), (" ", [32]), ("~", [126]), ("a b", [97, 32, 98]),
                           ("Object", [79, 98, 106, 101, 99, 116]), ("<init>", [60, 105, 110, 105, 116, 62])):
            found = text_bytes(text)
            self.assertEqual(found, data)
            self.assertIs(type(found), list)

    def test_all_signs(self):
        self.assertEqual(len(SIGNS), 94)
        self.assertEqual(text_bytes("".join(SIGNS)), [number for number in range(32, 127) if number != 37])
        for sign in SIGNS:
            self.assertEqual(text_bytes(sign), [ord(sign)])

    def test_any_length(self):
        for many in (200, 201, 70000):
            self.assertEqual(text_bytes("ab" * many), [97, 98] * many)

    def test_no_texts(self):
        signs = [chr(number) for number in list(range(32)) + [37] + list(range(127, 1000))] + ["\u20ac", "\U0001f600"]
        for sign in signs + ["\ud800", "\uff21"]:
            for text in (sign, "a" + sign, sign + "a", "a" * 300 + sign):
                self.raises(NoText, {}, text_bytes, text)

    def test_no_strings(self):
        for thing in no_strings():
            self.raises(NoText, {}, text_bytes, thing)

    def test_each_list_is_new(self):
        first = text_bytes("ab")
        first.append(1)
        self.assertEqual(text_bytes("ab"), [97, 98])


class BytesText(ErrorCase):
    def test_rows(self):
        for data, text in (([], ""), ([65], "A"), ([32], " "), ([126], "~"), ([97, 32, 98], "a b")):
            for row in (data, tuple(data)):
                found = bytes_text(row)
                self.assertEqual(found, text)
                self.assertIs(type(found), str)

    def test_all_signs(self):
        for number in range(256):
            if 32 <= number <= 126 and number != 37:
                self.assertEqual(bytes_text([number]), chr(number))
            else:
                for data in ([number], (number,), [65, number], [number, 65]):
                    self.raises(NoText, {}, bytes_text, data)
        self.assertEqual(bytes_text([ord(sign) for sign in SIGNS]), "".join(SIGNS))

    def test_it_turns_text_bytes_around(self):
        for text in ["", "".join(SIGNS), "x" * 1000] + SIGNS:
            self.assertEqual(bytes_text(text_bytes(text)), text)
            self.assertEqual(bytes_text(tuple(text_bytes(text))), text)

    def test_no_rows(self):
        for thing in no_rows() + ["AB", b"", b"AB", bytearray(b""), range(65, 70), {65: 66}, iter([65]), array()]:
            self.raises(NoBytes, {}, bytes_text, thing)

    def test_no_bytes_in_a_row(self):
        for thing in no_strings() + ["A", "", 256, -1, 10 ** 20, 65.0]:
            if type(thing) is int and 0 <= thing <= 255:
                continue
            for data in ([thing], (thing,), [65, thing], [thing, 65]):
                self.raises(NoBytes, {}, bytes_text, data)

    def test_no_bytes_go_ahead_of_no_text(self):
        for wrong in (256, -1, True, None, "A"):
            for sign in (0, 31, 37, 127, 255):
                self.raises(NoBytes, {}, bytes_text, [wrong, sign])
                self.raises(NoBytes, {}, bytes_text, [sign, wrong])
                self.raises(NoBytes, {}, bytes_text, (sign, 65, wrong))

    def test_nothing_is_changed(self):
        data = [65, 66]
        bytes_text(data)
        self.assertEqual(data, [65, 66])
        data = [65, 37]
        self.raises(NoText, {}, bytes_text, data)
        self.assertEqual(data, [65, 37])


class Interface(unittest.TestCase):
    def test_arguments(self):
        self.assertEqual(str(inspect.signature(text_bytes)), "(text)")
        self.assertEqual(str(inspect.signature(bytes_text)), "(data)")
        self.assertEqual({text_bytes.__module__, bytes_text.__module__}, {texts.__name__})


def array():
    """A row of bytes that is neither a list nor a tuple."""
    return memoryview(b"AB")


if __name__ == "__main__":
    unittest.main()
