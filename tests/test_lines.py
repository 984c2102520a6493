"""Lines, interfaces, and what stands below what: [9.3], [9.4], [9.14]."""

import unittest

from helpers import ErrorCase, face, file, no_strings
from typegate.errors import NotDefined, NotFound
from typegate.loading import interfaces_of, is_below, line
from typegate.worlds import World

OBJECT = ("base", "Object")
CLONEABLE = ("base", "Cloneable")
SERIALIZABLE = ("base", "Serializable")
FORMAT = "ClassFormatError"
CIRCLE = "ClassCircularityError"


class LineCase(ErrorCase):
    def line(self, expected, world, cls):
        """Compare the line of a class; each call makes a new list."""
        for _ in range(2):
            found = line(world, cls)
            self.assertEqual(found, expected)
            found.clear()

    def interfaces(self, expected, world, cls):
        for _ in range(2):
            found = interfaces_of(world, cls)
            self.assertEqual(found, expected)
            self.assertIs(type(found), list)
            found.append(1)


class Lines(LineCase):
    def test_classes(self):
        world = World({"a": {"A": file("A", "B", ["I"]), "B": file("B", "C"), "C": file("C"), "I": face("I")}})
        self.line([("a", "A"), ("a", "B"), ("a", "C"), OBJECT], world, ("a", "A"))
        self.line([("a", "B"), ("a", "C"), OBJECT], world, ("a", "B"))
        self.line([("a", "C"), OBJECT], world, ("a", "C"))

    def test_base_classes(self):
        for loaders in ({}, {"a": {"Error": "base"}}):
            world = World(loaders)
            self.line([OBJECT], world, OBJECT)
            self.line([("base", "String"), OBJECT], world, ("base", "String"))
            self.line([CLONEABLE, OBJECT], world, CLONEABLE)
            names = ["ArrayIndexOutOfBoundsException", "IndexOutOfBoundsException", "RuntimeException", "Exception",
                     "Throwable", "Object"]
            self.line([("base", name) for name in names], world, ("base", names[0]))

    def test_interfaces(self):
        world = World({"a": {"I": face("I", ["J"]), "J": face("J")}})
        self.line([("a", "I"), OBJECT], world, ("a", "I"))

    def test_over_loaders(self):
        world = World({"a": {"A": file("A", "B"), "B": "b", "C": file("C")},
                       "b": {"A": file("A"), "B": file("B", "C"), "C": "c"}, "c": {"C": file("C", "A"), "A": file("A")}})
        self.line([("a", "A"), ("b", "B"), ("c", "C"), ("c", "A"), OBJECT], world, ("a", "A"))
        self.line([("b", "A"), OBJECT], world, ("b", "A"))

    def test_a_long_one(self):
        names = ["A" + str(k) for k in range(60)]
        world = World({"a": {name: file(name, names[k + 1] if k < 59 else "Object") for k, name in enumerate(names)}})
        self.line([("a", name) for name in names] + [OBJECT], world, ("a", "A0"))


class Interfaces(LineCase):
    def test_the_example(self):
        world = World({"a": {"B": file("B", "A", ["J", "K"]), "A": file("A", "Object", ["I"]), "I": face("I"),
                             "J": face("J", ["I"]), "K": face("K")}})
        self.interfaces([("a", "J"), ("a", "I"), ("a", "K")], world, ("a", "B"))
        self.interfaces([("a", "I")], world, ("a", "A"))
        self.interfaces([("a", "I")], world, ("a", "J"))
        self.interfaces([], world, ("a", "I"))

    def test_none(self):
        world = World({"a": {"A": file("A"), "B": file("B", "A")}})
        for cls in (("a", "A"), ("a", "B"), OBJECT, CLONEABLE, ("base", "Error")):
            self.interfaces([], world, cls)

    def test_those_of_the_parents_stand_behind(self):
        world = World({"a": {"A": file("A", "B", ["K", "L"]), "B": file("B", "C"), "C": file("C", "Object", ["I", "L", "M"]),
                             "I": face("I", ["J"]), "J": face("J"), "K": face("K", ["J"]), "L": face("L"), "M": face("M")}})
        self.interfaces([("a", name) for name in "KJLIM"], world, ("a", "A"))
        self.interfaces([("a", name) for name in "IJLM"], world, ("a", "B"))

    def test_each_one_goes_ahead_of_those_that_it_names(self):
        world = World({"a": {"A": file("A", "Object", ["I", "L"]), "I": face("I", ["K", "J"]), "J": face("J", ["M"]),
                             "K": face("K", ["L"]), "L": face("L", ["M"]), "M": face("M")}})
        self.interfaces([("a", name) for name in "IKLMJ"], world, ("a", "A"))
        self.interfaces([("a", name) for name in "KLMJ"], world, ("a", "I"))

    def test_only_the_first_place_counts(self):
        world = World({"a": {"A": file("A", "P", ["I", "J"]), "P": file("P", "Object", ["J", "I", "K"]),
                             "I": face("I"), "J": face("J", ["I"]), "K": face("K", ["J"])}})
        self.interfaces([("a", name) for name in "IJK"], world, ("a", "A"))
        self.interfaces([("a", name) for name in "JIK"], world, ("a", "P"))

    def test_base_interfaces(self):
        world = World({"a": {"A": file("A", "P", ["Serializable"]), "P": file("P", "Object", ["I", "Serializable"]),
                             "I": face("I", ["Cloneable"])}})
        self.interfaces([SERIALIZABLE, ("a", "I"), CLONEABLE], world, ("a", "A"))

    def test_two_of_one_name(self):
        world = World({"a": {"A": file("A", "P", ["I"]), "P": "b", "I": face("I")},
                       "b": {"P": file("P", "Object", ["I"]), "I": face("I")}})
        self.interfaces([("a", "I"), ("b", "I")], world, ("a", "A"))


class Arguments(LineCase):
    def test_classes_that_do_not_load_well(self):
        world = World({"a": {"A": file("A", "Bad"), "Bad": file("Bad", flags=["static"]), "R": file("R", "R"),
                             "W": file("V"), "I": face("I", ["Gone"])}})
        for name, word in (("A", FORMAT), ("Bad", FORMAT), ("R", CIRCLE), ("W", "NoClassDefFoundError"),
                           ("I", "NoClassDefFoundError")):
            told = {"name": name, "word": word}
            for function in (line, interfaces_of):
                self.raises(NotFound, told, function, world, ("a", name))
            for thing in (("a", name), ("a", "[L" + name + ";"), ("a", "[[[L" + name + ";")):
                self.raises(NotFound, told, is_below, world, thing, OBJECT)
                self.raises(NotFound, told, is_below, world, OBJECT, thing)
                self.raises(NotFound, told, is_below, world, ("base", "[I"), thing)

    def test_the_first_wrong_one_is_told(self):
        world = World({"a": {"A": file("A"), "Bad": file("Bad", flags=["static"]), "R": file("R", "R")}})
        bad, ring = {"name": "Bad", "word": FORMAT}, {"name": "R", "word": CIRCLE}
        self.raises(NotFound, bad, is_below, world, ("a", "Bad"), ("a", "R"))
        self.raises(NotFound, ring, is_below, world, ("a", "R"), ("a", "Bad"))
        self.raises(NotFound, bad, is_below, world, ("a", "Bad"), None)
        self.raises(NotDefined, {"cls": None}, is_below, world, None, ("a", "Bad"))
        self.raises(NotDefined, {"cls": ("a", "Gone")}, is_below, world, ("a", "[LGone;"), ("a", "Bad"))
        self.raises(NotDefined, {"cls": ("a", "Gone")}, is_below, world, ("a", "A"), ("a", "Gone"))

    def test_no_run_time_types(self):
        world = World({"a": {"A": file("A"), "X": "b"}, "b": {"X": file("X")}})
        things = no_strings() + [
            "A", "", "[I", ("a", "B"), ("a", "X"), ("c", "A"), ("a", "Object"), ("a", "LA;"), ("a", "I"), ["base", "[I"],
            ("a", "A", "A"), ("base",), ("a", None), (None, "A"), ("a", ["[I"]), ("base", "[V"), ("base", "["),
            ("base", "[A"), ("base", "[[[[[[I"), ("a", "[LA"), ("a", "[LA;;"), ("a", "[L;"), ("base", "I["), ("base", "[II")]
        for thing in things:
            self.raises(NotDefined, {"cls": thing}, is_below, world, thing, OBJECT)
            self.raises(NotDefined, {"cls": thing}, is_below, world, OBJECT, thing)
            self.raises(NotDefined, {"cls": thing}, is_below, world, thing, None)

    def test_arrays_of_classes_that_are_not_defined(self):
        world = World({"a": {"A": file("A"), "X": "b"}, "b": {"X": file("X")}})
        for loader, name in (("a", "B"), ("a", "X"), ("c", "A"), ("a", "Object"), ("base", "A"), ("a", "p/A"), ("", "A")):
            for brackets in range(1, 6):
                array = (loader, "[" * brackets + "L" + name + ";")
                self.raises(NotDefined, {"cls": (loader, name)}, is_below, world, array, OBJECT)
                self.raises(NotDefined, {"cls": (loader, name)}, is_below, world, OBJECT, array)

    def test_arrays_of_letters_are_those_of_base(self):
        world = World({"a": {"I": file("I")}})
        for letter in "ZBSCIJ":
            for brackets in range(1, 6):
                array = "[" * brackets + letter
                self.assertTrue(is_below(world, ("base", array), OBJECT))
                for loader in ("a", "c", "", None, 0):
                    self.raises(NotDefined, {"cls": (loader, array)}, is_below, world, (loader, array), OBJECT)
                    self.raises(NotDefined, {"cls": (loader, array)}, is_below, world, OBJECT, (loader, array))


class Below(LineCase):
    def setUp(self):
        self.world = World({"a": {"A": file("A", "B", ["I"]), "B": file("B", "C"), "C": file("C", "Object", ["J"]),
                                  "D": file("D", "C"), "I": face("I", ["K"]), "J": face("J"), "K": face("K"), "L": face("L"),
                                  "X": "b"},
                            "b": {"X": file("X", "C"), "C": "a", "A": file("A", "X")}})
        self.above = {("a", "A"): "BCIJK", ("a", "B"): "CJ", ("a", "C"): "J", ("a", "D"): "CJ", ("a", "I"): "K", ("a", "J"): "",
                      ("a", "K"): "", ("a", "L"): "", ("b", "X"): "CJ"}

    def test_classes_and_interfaces(self):
        for cls in self.above:
            expected = [("a", name) for name in self.above[cls]] + [OBJECT]
            for other in list(self.above) + [OBJECT, CLONEABLE, SERIALIZABLE, ("base", "String"), ("b", "A")]:
                found = is_below(self.world, cls, other)
                self.assertIs(found, other in expected, (cls, other))

    def test_another_class_of_the_same_name(self):
        self.assertTrue(is_below(self.world, ("b", "A"), ("b", "X")))
        self.assertTrue(is_below(self.world, ("b", "A"), ("a", "C")))
        self.assertFalse(is_below(self.world, ("b", "A"), ("a", "B")))
        self.assertFalse(is_below(self.world, ("a", "A"), ("b", "A")))

    def test_no_class_is_below_itself(self):
        for cls in list(self.above) + [OBJECT, CLONEABLE, ("base", "Error")]:
            self.assertIs(is_below(self.world, cls, cls), False)

    def test_base_classes(self):
        self.assertTrue(is_below(self.world, ("base", "Error"), ("base", "Throwable")))
        self.assertTrue(is_below(self.world, CLONEABLE, OBJECT))
        self.assertFalse(is_below(self.world, OBJECT, ("base", "Error")))
        self.assertFalse(is_below(self.world, CLONEABLE, SERIALIZABLE))
        self.assertFalse(is_below(self.world, OBJECT, CLONEABLE))

    def test_arrays(self):
        arrays = [("base", "[" * many + letter) for many in range(1, 6) for letter in "ZBSCIJ"]
        arrays += [("a", "[" * many + "L" + name + ";") for many in range(1, 6) for name in "ABI"]
        arrays += [("base", "[" * many + "L" + name + ";") for many in range(1, 6) for name in ("Object", "Cloneable")]
        others = [("a", "A"), ("a", "I"), ("base", "String"), ("base", "Throwable"), ("base", "[I"), ("base", "[LObject;"),
                  ("a", "[LA;"), ("a", "[LB;"), ("base", "[LCloneable;"), ("base", "[[LObject;")]
        for array in arrays:
            for other in (OBJECT, CLONEABLE, SERIALIZABLE):
                self.assertIs(is_below(self.world, array, other), True, array)
                self.assertIs(is_below(self.world, other, array), False, array)
            for other in others:
                self.assertIs(is_below(self.world, array, other), False, (array, other))
                self.assertIs(is_below(self.world, other, array), False, (array, other))
            self.assertIs(is_below(self.world, array, array), False)

    def test_arguments_by_name(self):
        self.assertTrue(is_below(world=self.world, one=("a", "A"), other=("a", "B")))
        self.assertEqual(line(world=self.world, cls=("a", "C")), [("a", "C"), OBJECT])
        self.assertEqual(interfaces_of(world=self.world, cls=("a", "C")), [("a", "J")])


if __name__ == "__main__":
    unittest.main()
