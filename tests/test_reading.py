"""Files of bytes that are read, but for the instructions and the map: [7.1] to [7.8]."""

import itertools
import unittest

from drafts import PARTS, Draft, DraftCase, text, u2, u4
from helpers import no_rows
from typegate.classes import ClassFile, Code, Uncut
from typegate.errors import NoBytes, NoClass
from typegate.files import read


class Arguments(DraftCase):
    def test_rows_of_bytes(self):
        data = Draft().data
        self.assertEqual(read(tuple(data)), read(data))
        self.assertEqual(read(data=data), read(data))
        before = list(data)
        read(data)
        self.assertEqual(data, before)

    def test_others(self):
        for thing in no_rows() + [[256], [-1], [True], [None], ["a"], [1.0], (202, 254, 186, 190, 256), [[202]], bytes(3)]:
            self.raises(NoBytes, {}, read, thing)

    def test_the_example(self):
        self.raises(NoClass, {"at": 0, "why": "magic"}, read, [202, 254, 186, 191])


class Whole(DraftCase):
    def test_it(self):
        code = Code(2, 3, [("nop",), ("return",), ("pop",), ("return",)], [(0, 1, 2, None)], [(2, [], [("object", "Object")])])
        self.assertEqual(self.made(), ClassFile(
            "A", "Object", ["I"], ["public"], [("f", "I", ["static"], 7)], [("m", "()V", ["public", "static"], code)]))

    def test_every_shorter_one(self):
        data = Draft().data
        for many in range(len(data)):
            self.raises(NoClass, {"at": many, "why": "cut"}, read, data[:many])

    def test_a_longer_one(self):
        for more in ([0], [0, 0], [255]):
            draft = Draft({"end": more})
            self.raises(NoClass, {"at": len(draft.data) - len(more), "why": "end"}, read, draft.data)


class Heads(DraftCase):
    def test_magic(self):
        for k in range(4):
            magic = [202, 254, 186, 190]
            magic[k] ^= 1
            self.wrong("magic", "magic", {"magic": magic})

    def test_versions(self):
        for version in range(52, 70):
            self.made({"version": [0, 0, 0, version]})
        for version in ([0, 0, 0, 51], [0, 0, 0, 70], [0, 0, 1, 52], [1, 0, 0, 52], [0, 1, 0, 52], [255, 255, 0, 52]):
            self.wrong("version", "version", {"version": version})

    def test_no_pool(self):
        self.wrong("pool", "many", {"many": u2(0)})
        # One that has no entries is no pool that is wrong.
        self.raises(NoClass, {"at": 12, "why": "link"}, read, PARTS["magic"] + PARTS["version"] + u2(1, 33, 1))

    def test_the_first_one_is_told(self):
        self.wrong("magic", "magic", {"magic": [1, 2, 3, 4], "version": [1, 0, 0, 0]})
        self.wrong("version", "version", {"version": [1, 0, 0, 0], "many": u2(0)})
        self.raises(NoClass, {"at": 3, "why": "cut"}, read, [1, 2, 3])
        self.raises(NoClass, {"at": 0, "why": "magic"}, read, [1, 2, 3, 4])
        self.raises(NoClass, {"at": 7, "why": "cut"}, read, [202, 254, 186, 190, 1, 1, 1])


class Entries(DraftCase):
    def test_tags(self):
        for tag in range(256):
            if tag in (4, 6, 15, 16, 17, 18, 19, 20):
                self.wrong("out", 20, {20: [tag]})
            elif tag not in (1, 3, 5, 7, 8, 9, 10, 11, 12):
                self.wrong("tag", 20, {20: [tag]})

    def test_a_tag_is_looked_at_as_soon_as_it_is_read(self):
        draft = Draft()
        self.raises(NoClass, {"at": 10, "why": "tag"}, read, draft.data[:10] + [2])
        self.raises(NoClass, {"at": 10, "why": "out"}, read, draft.data[:10] + [4])
        for tag in (1, 3, 5, 7, 8, 9, 10, 11, 12):
            self.raises(NoClass, {"at": 12, "why": "cut"}, read, draft.data[:10] + [tag, 0])

    def test_texts(self):
        for byte in (0, 10, 31, 37, 127, 128, 192, 255):
            self.wrong("text", 16, {16: [1] + u2(2) + [65, byte]})
        for byte in (32, 36, 38, 126):
            self.made({16: [1] + u2(2) + [65, byte]})
        self.made({16: [1] + u2(0)})
        draft = Draft({16: [1] + u2(2) + [7, 7]})
        cut = draft.places[16] + 4
        self.raises(NoClass, {"at": cut, "why": "cut"}, read, draft.data[:cut])
        self.raises(NoClass, {"at": draft.places[16], "why": "text"}, read, draft.data[:cut + 1])

    def test_a_long_that_has_no_second_index(self):
        draft = Draft({"many": u2(18)})
        self.raises(NoClass, {"at": draft.places[17], "why": "pool"}, read, draft.data)
        # A cut goes ahead, as the entry is not whole.
        cut = draft.places[17] + 8
        self.raises(NoClass, {"at": cut, "why": "cut"}, read, draft.data[:cut])
        self.raises(NoClass, {"at": draft.places[17], "why": "pool"}, read, draft.data[:cut + 1])

    def test_the_first_wrong_entry_goes_ahead_of_all_links(self):
        self.wrong("text", 16, {16: [1] + u2(1) + [0], 1: [7] + u2(3)})
        self.wrong("tag", 38, {38: [99], 1: [7] + u2(3)})

    def test_numbers_with_signs(self):
        for told, number in ((u4(0), 0), (u4(-1), -1), (u4(2 ** 31 - 1), 2 ** 31 - 1), (u4(-2 ** 31), -2 ** 31)):
            self.assertEqual(self.made({9: [3] + told}).fields[0][3], number)
        for number in (0, 1, -1, 2 ** 32, -2 ** 32, 2 ** 63 - 1, -2 ** 63, 2 ** 31, -2 ** 31 - 1):
            told = u4(number >> 32, number)
            field = self.made({17: [5] + told, "field descriptor": u2(33), "constant": u2(17)}).fields[0]
            self.assertEqual(field, ("f", "J", ("static",), number))

    def test_entries_that_nothing_uses_and_that_are_equal(self):
        self.made({38: text("Object"), 39: text("Object")})
        self.wrong("link", 19, {19: [8] + u2(1)})


class Links(DraftCase):
    def test_of_each_sort(self):
        """Each link that leads to nothing, to the second index of a long, or to another sort."""
        links = {1: ["text"], 19: ["text"], 21: ["class", "pair"], 23: ["class", "pair"], 25: ["class", "pair"],
                 22: ["text", "text"]}
        sorts = {"text": 16, "class": 14, "pair": 36, "int": 9, "long": 17, "string": 19, "field": 21, "method": 23,
                 "interface method": 25}
        for entry, wanted in links.items():
            for place, sort in enumerate(wanted):
                tag, *told = PARTS[entry]
                for other, index in [*sorts.items(), ("none", 0), ("none", 18), ("none", 40), ("none", 65535)]:
                    if other != sort:
                        changed = list(told)
                        changed[2 * place:2 * place + 2] = u2(index)
                        self.wrong("link", entry, {entry: [tag] + changed})

    def test_they_are_looked_at_entry_by_entry(self):
        self.wrong("link", 1, {1: [7] + u2(3), 19: [8] + u2(1), 22: [12] + u2(1, 1)})
        self.wrong("link", 19, {19: [8] + u2(1), 22: [12] + u2(1, 1)})

    def test_classes(self):
        for name in ("A", "p/A", "[I", "[[LA;", "$_9", "A" * 30, "/".join(["A" * 29] * 2)):
            self.made({15: text(name)})
        for name in ("", "A;", "LA;", "p.A", "[", "[A", "[[[[[[I", "/A", "A" * 31, "()V", "A B"):
            self.wrong("name", 14, {15: text(name)})

    def test_strings(self):
        self.made({20: text("x" * 200)})
        self.made({20: text("")})
        self.wrong("large", 19, {20: text("x" * 201)})

    def test_pairs(self):
        for name in ("", "a/b", "a b", "<INIT>", "x" * 31, "[I"):
            self.wrong("name", 36, {36: [12] + u2(16, 35), 16: text(name), 37: [11] + u2(5, 24)})
        for name in ("<init>", "<clinit>", "x" * 30):
            self.made({36: [12] + u2(16, 35), 16: text(name), 37: [11] + u2(5, 24)})
        for descriptor in ("", "V", "A", "LA", "[[[[[[I", "()", "(V)V", "I I", "(I", "()VV", "II"):
            self.wrong("descriptor", 36, {36: [12] + u2(10, 16), 16: text(descriptor), 37: [11] + u2(5, 24)})
        for descriptor in ("I", "[J", "LA;", "(IJ)LA;"):
            self.made({36: [12] + u2(10, 16), 16: text(descriptor), 37: [11] + u2(5, 24)})
        self.wrong("name", 36, {36: [12] + u2(16, 16), 16: text("?"), 37: [11] + u2(5, 24)})

    def test_fields(self):
        self.wrong("name", 21, {21: [9] + u2(14, 22)})
        self.wrong("name", 21, {22: [12] + u2(26, 6)})
        self.wrong("name", 21, {22: [12] + u2(32, 6)})
        self.wrong("descriptor", 21, {22: [12] + u2(7, 11)})
        self.wrong("name", 21, {21: [9] + u2(14, 24)})
        # The pair's name is told at the field, if that stands ahead.
        self.wrong("name", 21, {7: text("?")})
        self.wrong("descriptor", 21, {22: [12] + u2(7, 12)})

    def test_methods(self):
        self.made({23: [10] + u2(14, 24)})
        self.made({28: [10] + u2(14, 27)})
        self.made({24: [12] + u2(10, 39)})
        self.wrong("name", 28, {27: [12] + u2(32, 11)})
        self.wrong("descriptor", 28, {27: [12] + u2(26, 39)})
        self.wrong("descriptor", 28, {27: [12] + u2(26, 6)})
        self.wrong("descriptor", 23, {24: [12] + u2(10, 6)})
        # Any other wrong name is told at the pair.
        self.wrong("name", 24, {24: [12] + u2(16, 11), 16: text("?"), 25: [11] + u2(5, 36)})
        self.wrong("descriptor", 23, {24: [12] + u2(16, 6), 16: text("?")})

    def test_interface_methods(self):
        self.wrong("name", 25, {25: [11] + u2(14, 24)})
        self.wrong("name", 25, {25: [11] + u2(5, 27)})
        self.wrong("name", 37, {36: [12] + u2(32, 11)})
        self.wrong("descriptor", 37, {36: [12] + u2(10, 6)})
        # The pair's name is told here, too, if the pair stands behind, and ahead of its descriptor.
        self.wrong("name", 25, {36: [12] + u2(16, 6), 16: text("?"), 25: [11] + u2(5, 36)})

    def test_what_another_entry_leads_to_wrongly_is_told_there(self):
        # The field stands ahead of its pair, and the pair leads to no texts.
        self.wrong("link", 22, {22: [12] + u2(1, 6)})
        self.wrong("link", 22, {22: [12] + u2(7, 1)})
        self.wrong("link", 24, {24: [12] + u2(1, 1), 25: [11] + u2(5, 36)})
        self.wrong("name", 21, {22: [12] + u2(26, 1)})
        self.wrong("descriptor", 21, {22: [12] + u2(1, 11)})
        # So it is for a class behind the entry that leads to it.
        self.wrong("link", 30, {21: [9] + u2(30, 22), 30: [7] + u2(30)})
        self.wrong("name", 30, {21: [9] + u2(30, 22), 29: text("[")})
        self.wrong("name", 21, {21: [9] + u2(30, 22)})


class Classes(DraftCase):
    def test_flags(self):
        for number, words in ((0, ()), (1, ("public",)), (32, ()), (16, ("final",)), (512, ("interface",)),
                              (1024, ("abstract",)), (32767, ("public", "final", "abstract", "interface")),
                              (0x7fff - 0x611, ())):
            self.assertEqual(self.made({"flags": u2(number)}).flags, words)
        for number in (32768, 65535, 32769):
            self.wrong("out", "flags", {"flags": u2(number)})

    def test_names(self):
        for label in ("own", "parent", "face"):
            for index in (2, 18, 40, 9, 19, 21, 22, 65535) + ((0,) if label != "parent" else ()):
                self.wrong("link", label, {label: u2(index)})
            self.wrong("name", label, {label: u2(14)})
        self.assertIsNone(self.made({"parent": u2(0)}).parent)
        self.assertEqual(self.made({"parent": u2(5), "own": u2(3), "face": u2(1)}).name, "Object")

    def test_interfaces(self):
        self.assertEqual(self.made({"faces": u2(0), "face": []}).interfaces, ())
        self.assertEqual(self.made({"faces": u2(3), "face": u2(1, 5, 1)}).interfaces, ("A", "I", "A"))
        self.wrong("name", "face", {"faces": u2(3), "face": u2(1, 14, 2)}, 2)
        self.wrong("link", "face", {"faces": u2(3), "face": u2(1, 1, 2)}, 4)

    def test_attributes(self):
        for count, told in ((1, u2(16) + u4(3) + [1, 2, 3]), (2, u2(16) + u4(0) + u2(12) + u4(1) + [9]),
                            (2, u2(8) + u4(0) + u2(8) + u4(0))):
            self.assertEqual(self.made({"attributes": u2(count) + told}), self.made())
        for index in (1, 0, 18, 40):
            self.wrong("link", "attributes", {"attributes": u2(1, index) + u4(0)}, 2)
        draft = Draft({"attributes": u2(1, 16) + u4(3) + [1, 2]})
        self.raises(NoClass, {"at": len(draft.data), "why": "cut"}, read, draft.data)
        draft = Draft({"attributes": u2(1, 16) + u4(2 ** 32 - 1) + [1, 2]})
        self.raises(NoClass, {"at": len(draft.data), "why": "cut"}, read, draft.data)


class Fields(DraftCase):
    def test_flags(self):
        none = {"field attributes": u2(0), "constant name": [], "constant length": [], "constant": []}
        for number, words in ((1, ("public",)), (2, ("private",)), (4, ("protected",)), (8, ("static",)), (16, ("final",)),
                              (0, ()), (0xffff, ("public", "private", "protected", "static", "final")), (0xffe0, ())):
            self.assertEqual(self.made({"field flags": u2(number), **none}).fields[0], ("f", "I", words, None))

    def test_names(self):
        for index in (0, 1, 18, 40):
            self.wrong("link", "field name", {"field name": u2(index)})
            self.wrong("link", "field descriptor", {"field descriptor": u2(index)})
        for index in (26, 32, 20, 15):
            self.wrong("name", "field name", {"field name": u2(index)})
        for index in (11, 12, 2):
            self.wrong("descriptor", "field descriptor", {"field descriptor": u2(index)})
        self.wrong("name", "field name", {"field name": u2(26), "field descriptor": u2(0)})

    def test_constants(self):
        for descriptor, index, constant in (("Z", 9, 7), ("B", 9, 7), ("S", 9, 7), ("C", 9, 7), ("I", 9, 7), ("J", 17, 2 ** 32 + 2),
                                            ("LString;", 19, "x y")):
            changes = {16: text(descriptor), "field descriptor": u2(16)}
            self.assertEqual(self.made({**changes, "constant": u2(index)}).fields[0], ("f", descriptor, ("static",), constant))
            for other in {9, 17, 19, 0, 18, 40, 20} - {index}:
                self.wrong("link", "constant", {**changes, "constant": u2(other)})
        for descriptor in ("LObject;", "[I", "LA;"):
            for index in (0, 9, 17, 19, 18, 1):
                self.wrong("link", "constant", {16: text(descriptor), "field descriptor": u2(16), "constant": u2(index)})

    def test_constants_of_fields_that_are_not_static(self):
        for told in (u2(9), u2(17), u2(0), [], [1, 2, 3]):
            changes = {"field flags": u2(16), "constant length": u4(len(told)), "constant": told}
            self.assertEqual(self.made(changes).fields[0], ("f", "I", ("final",), None))
        self.assertIsNone(self.made({"field flags": u2(0), "field attributes": u2(2),
                                     "constant": u2(9) + u2(8) + u4(2) + u2(9)}).fields[0][3])

    def test_the_length_of_a_constant(self):
        for told in ([], [0]):
            self.wrong("length", "constant name", {"constant length": u4(len(told)), "constant": told})
        for told in (u2(9) + [0], u2(9, 9)):
            self.wrong("length", "constant name", {"constant length": u4(len(told)), "constant": told})
        self.wrong("link", "constant", {"constant length": u4(3), "constant": u2(17) + [0]})

    def test_attributes(self):
        other = u2(16) + u4(2) + [1, 2]
        for told in (other + u2(8) + u4(2) + u2(9), u2(8) + u4(2) + u2(9) + other):
            made = self.made({"field attributes": u2(2), "constant name": told, "constant length": [], "constant": []})
            self.assertEqual(made, self.made())
        self.wrong("link", "constant name", {"constant name": u2(1)})
        # Code and others are none of a field.
        for index in (12, 13, 16):
            self.assertIsNone(self.made({"constant name": u2(index)}).fields[0][3])

    def test_twice(self):
        twice = u2(8) + u4(2) + u2(9)
        self.wrong("twice", "constant", {"field attributes": u2(2), "constant": u2(9) + twice}, 2)
        # It is told behind its last byte, and ahead of what is inside of the first one.
        self.wrong("twice", "constant", {"field attributes": u2(2), "constant": u2(0) + twice}, 2)
        draft = Draft({"field attributes": u2(2), "constant": u2(9) + twice})
        cut = draft.places["constant"] + 2 + 7
        self.raises(NoClass, {"at": cut, "why": "cut"}, read, draft.data[:cut])
        self.wrong("link", "constant", {"field attributes": u2(2), "constant": u2(0) + u2(1) + u4(2) + u2(9)}, 2)

    def test_several(self):
        more = u2(0, 7, 33, 0)
        made = self.made({"fields": u2(2), "constant": u2(9) + more})
        self.assertEqual(made.fields, (("f", "I", ("static",), 7), ("f", "J", (), None)))
        self.wrong("descriptor", "constant", {"fields": u2(2), "constant": u2(9) + u2(0, 7, 11, 0)}, 6)


NO_CODE = {label: [] for label in ("code name", "code length", "stack", "places", "length", "bytes", "handlers", "handler",
                                   "code attributes", "map name", "map length", "map")}


class Methods(DraftCase):
    def test_flags(self):
        none = {**NO_CODE, "method attributes": u2(0)}
        words = {1: "public", 2: "private", 4: "protected", 8: "static", 16: "final", 32: "synchronized", 256: "native",
                 1024: "abstract"}
        for number, word in words.items():
            self.assertEqual(self.made({"method flags": u2(number), **none}).methods[0], ("m", "()V", (word,), None))
        for number in (0xffff - sum(words), 0x8000, 64, 128, 512):
            self.assertEqual(self.made({"method flags": u2(number), **none}).methods[0][2], ())
        self.assertEqual(self.made({"method flags": u2(0xffff), **none}).methods[0][2], (
            "public", "private", "protected", "static", "final", "synchronized", "abstract", "native"))

    def test_flags_of_clinit(self):
        none = {**NO_CODE, "method attributes": u2(0), "method name": u2(32)}
        for number, words in ((0, ()), (8, ("static",)), (0xffff, ("static",)), (0xfff7, ())):
            self.assertEqual(self.made({"method flags": u2(number), **none}).methods[0], ("<clinit>", "()V", words, None))

    def test_names(self):
        for index in (0, 1, 18, 40):
            self.wrong("link", "method name", {"method name": u2(index)})
            self.wrong("link", "method descriptor", {"method descriptor": u2(index)})
        for index in (20, 15, 11):
            self.wrong("name", "method name", {"method name": u2(index)})
        for index in (6, 12, 26):
            self.wrong("descriptor", "method descriptor", {"method descriptor": u2(index)})
        for index, name in ((26, "<init>"), (32, "<clinit>"), (7, "f")):
            self.assertEqual(self.made({"method name": u2(index)}).methods[0][0], name)

    def test_a_code_of_any_method(self):
        self.assertIsInstance(self.made({"method flags": u2(1024 + 1)}).methods[0][3], Code)

    def test_attributes(self):
        self.wrong("link", "code name", {"code name": u2(1)})
        for index in (8, 13, 16):
            self.assertIsNone(self.made({"code name": u2(index)}).methods[0][3])
        other = u2(16) + u4(1) + [9]
        self.assertEqual(self.made({"method attributes": u2(2), "after": other}), self.made())
        self.assertEqual(self.made({"method attributes": u2(2), "code name": other + u2(12)}), self.made())

    def test_twice(self):
        self.wrong("twice", "after", {"method attributes": u2(2), "after": u2(12) + u4(0)})
        self.wrong("twice", "after", {"method attributes": u2(2), "after": u2(12) + u4(0), "stack": u2(256)})
        self.wrong("link", "after", {"method attributes": u2(2), "after": u2(1) + u4(0), "stack": u2(256)})
        self.wrong("large", "stack", {"method attributes": u2(2), "after": u2(16) + u4(0), "stack": u2(256)})

    def test_several(self):
        more = u2(1, 7, 11, 0)
        self.assertEqual(self.made({"methods": u2(2), "after": more}).methods[1], ("f", "()V", ("public",), None))
        # The inside of a code goes ahead of the next method.
        wrong = u2(1, 1, 11, 0)
        self.wrong("link", "after", {"methods": u2(2), "after": wrong}, 2)
        self.wrong("large", "places", {"methods": u2(2), "after": wrong, "places": u2(256)})
        self.wrong("out", "bytes", {"methods": u2(2), "after": wrong, "bytes": [11, 177, 87, 177]})


class Codes(DraftCase):
    def test_large(self):
        self.assertEqual(self.made({"stack": u2(255), "places": u2(255)}).methods[0][3].stack, 255)
        for number in (256, 65535):
            self.wrong("large", "stack", {"stack": u2(number)})
            self.wrong("large", "places", {"places": u2(number)})
        self.wrong("large", "stack", {"stack": u2(256), "places": u2(256)})

    def test_places(self):
        for descriptor, static, least in (("()V", 8, 0), ("()V", 0, 1), ("(IJ)V", 8, 3), ("(IJ)V", 0, 4), ("([JLA;)J", 0, 3)):
            changes = {16: text(descriptor), "method descriptor": u2(16), "method flags": u2(static)}
            self.assertEqual(self.made({**changes, "places": u2(least)}).methods[0][3].places, least)
            if least > 0:
                self.wrong("places", "places", {**changes, "places": u2(least - 1)})
        self.wrong("places", "places", {"method flags": u2(0), "places": u2(0), "length": u4(0)})
        self.wrong("places", "places", {"method flags": u2(1), "method name": u2(32), "places": u2(0)})
        self.made({"method flags": u2(8), "method name": u2(32), "places": u2(0)})

    def test_lengths_of_instructions(self):
        for number in (0, 65536, 2 ** 32 - 1):
            self.wrong("code", "length", {"length": u4(number)})
        self.wrong("length", "code name", {"length": u4(65535)})
        self.assertIsInstance(self.made({"bytes": [0] * 2 + [87] + [0] * 65531 + [177]}).methods[0][3], Code)

    def test_handlers(self):
        for told in (u2(1, 1, 2, 0), u2(2, 1, 2, 0), u2(0, 5, 2, 0), u2(0, 4, 4, 0), u2(0, 65535, 0, 0), u2(0, 4, 65535, 0),
                     u2(0, 1, 2, 2), u2(0, 1, 2, 14), u2(0, 1, 2, 18), u2(0, 1, 2, 40), u2(0, 1, 2, 9)):
            self.wrong("handler", "handler", {"handler": told})
        self.assertEqual(self.made({"handler": u2(0, 4, 3, 3)}).methods[0][3].handlers, ((0, 4, 3, "Object"),))
        self.wrong("handler", "handler", {"handlers": u2(2), "handler": u2(0, 1, 2, 0) + u2(1, 1, 1, 0)}, 8)
        self.assertEqual(self.made({"handlers": u2(2), "handler": u2(0, 1, 2, 0) + u2(0, 2, 1, 1)}).methods[0][3].handlers,
                         ((0, 1, 2, None), (0, 2, 1, "A")))

    def test_attributes(self):
        self.wrong("link", "map name", {"map name": u2(1)})
        for index in (8, 12, 16):
            self.assertEqual(self.made({"map name": u2(index)}).methods[0][3].frames, ())
        other = u2(16) + u4(1) + [9]
        self.assertEqual(self.made({"code attributes": u2(2), "map name": other + u2(13)}), self.made())
        twice = u2(13) + u4(0)
        self.wrong("twice", "map name", {"code attributes": u2(2), "map name": twice + u2(13)}, 6)
        self.wrong("twice", "map name", {"code attributes": u2(2), "map name": twice + u2(13), "bytes": [11] * 4}, 6)

    def test_parts_that_do_not_end_inside(self):
        """For each length that is too small the place of the attribute, as soon as a part does not end inside."""
        draft = Draft()
        whole = draft.places["attributes"] - draft.places["stack"]
        for length in range(whole):
            changes = {"code length": u4(length), "attributes": []}
            data = Draft(changes).data
            begin = draft.places["stack"]
            data = data[:begin + length] + u2(0)
            self.raises(NoClass, {"at": draft.places["code name"], "why": "length"}, read, data)

    def test_other_words_inside_go_ahead(self):
        place = Draft().places
        for length, changes, label, why in ((2, {"stack": u2(256)}, "stack", "large"), (4, {"places": u2(256)}, "places", "large"),
                                            (8, {"length": u4(0)}, "length", "code"),
                                            (22, {"handler": u2(1, 1, 0, 0)}, "handler", "handler")):
            data = Draft({"code length": u4(length), **changes}).data[:place["stack"] + length] + u2(0)
            self.raises(NoClass, {"at": place[label], "why": why}, read, data)

    def test_more_than_there_is_inside(self):
        whole = Draft().places["after"] - Draft().places["stack"]
        for more in (1, 2, 100):
            self.wrong("length", "code name", {"code length": u4(whole + more), "after": [0] * more})
        # This goes ahead of what is cut.
        self.wrong("length", "code name", {"code length": u4(whole + 1), "after": [0], "bytes": [11] * 4})

    def test_an_attribute_inside_that_ends_outside(self):
        whole = Draft().places["after"] - Draft().places["stack"]
        self.wrong("length", "code name", {"map length": u4(len(PARTS["map"]) + 1), "after": [0], "code length": u4(whole)})

    def test_all_bytes_of_an_attribute_must_be_there_first(self):
        draft = Draft({"stack": u2(256), "code length": u4(10 ** 6)})
        self.raises(NoClass, {"at": len(draft.data), "why": "cut"}, read, draft.data)


class Pairs(DraftCase):
    """Two things wrong at once: the one that is come to first is told."""

    CHANGES = [("many", "pool", {"many": u2(0)}), (16, "text", {16: [1] + u2(1) + [0]}), (19, "link", {19: [8] + u2(1)}),
               ("flags", "out", {"flags": u2(32768)}), ("own", "link", {"own": u2(2)}), ("parent", "name", {"parent": u2(14)}),
               ("face", "link", {"face": u2(0)}), ("field name", "name", {"field name": u2(26)}),
               ("field descriptor", "descriptor", {"field descriptor": u2(11)}), ("constant name", "link", {"constant name": u2(1)}),
               ("constant", "link", {"constant": u2(17)}), ("method name", "name", {"method name": u2(20)}),
               ("method descriptor", "link", {"method descriptor": u2(1)}), ("code name", "link", {"code name": u2(1)}),
               ("stack", "large", {"stack": u2(256)}), ("places", "large", {"places": u2(256)}), ("length", "code", {"length": u4(0)}),
               ("handler", "handler", {"handler": u2(1, 1, 0, 0)}), ("map name", "link", {"map name": u2(1)}),
               ("bytes", "out", {"bytes": [201, 177, 87, 177]}), ("attributes", "link", {"attributes": u2(1, 1) + u4(0)})]

    def test_them(self):
        for one, other in itertools.combinations(self.CHANGES, 2):
            label, why, changes = one
            if {label, other[0]} == {"map name", "bytes"}:
                continue
            self.wrong(why, label, {**other[2], **changes}, 2 if label == "attributes" else 0)

    def test_alone(self):
        for label, why, changes in self.CHANGES:
            self.wrong(why, label, changes, 2 if label == "attributes" else 0)

    def test_bytes_are_cut_behind_all_parts_of_the_code(self):
        self.wrong("link", "map name", {"map name": u2(1), "bytes": [201, 177, 87, 177]})
        self.assertEqual(self.made({"bytes": [202, 177, 87, 177], "map": [9]}).methods[0][3], Uncut("opcode", 0))


if __name__ == "__main__":
    unittest.main()
