"""Which entry fits which, and the least entry for two: [4.1] to [4.4]."""

import inspect
import itertools
import unittest

from helpers import ErrorCase, face, file, no_strings
from typegate import types
from typegate.errors import NoEntry, NoLoader, NotFound
from typegate.loading import denoted, is_interface, line
from typegate.types import fits, least
from typegate.worlds import World

MISSING = "NoClassDefFoundError"
FORMAT = "ClassFormatError"
PLAIN = ["top", "int", "long", "null", "this", ("new", 0), ("new", 1), ("new", 65535)]


def thing(name):
    return ("object", name)


class EntryCase(ErrorCase):
    def setUp(self):
        """A and B are below P, P below Q; I and J are interfaces, A is below I, and I below J."""
        self.world = World({"a": {
            "A": file("A", "P", ["I"]), "B": file("B", "P"), "P": file("P", "Q"), "Q": file("Q"), "C": file("C"),
            "I": face("I", ["J"]), "J": face("J"), "Bad": file("Bad", flags=["static"]), "Ring": file("Ring", "Ring"),
            "Child": file("Child", "Bad")}})

    def fits(self, expected, one, other, loose=False, world=None, loader="a"):
        found = fits(world or self.world, loader, one, other, loose=loose)
        self.assertIs(found, expected, (one, other, loose))

    def objects_fit(self, expected, one, other, **more):
        self.fits(expected, thing(one), thing(other), **more)

    def least(self, expected, one, other, world=None, loader="a"):
        for first, second in ((one, other), (other, one)):
            self.assertEqual(least(world or self.world, loader, first, second), expected, (first, second))

    def least_object(self, expected, one, other, **more):
        self.least(thing(expected), thing(one), thing(other), **more)

    def lost(self, name, word, function, one, other, **more):
        self.raises(NotFound, {"name": name, "word": word}, function, self.world, "a", thing(one), thing(other), **more)


class Examples(EntryCase):
    def test_them(self):
        small = World({"a": {"I": face("I")}})
        self.assertTrue(fits(small, "a", ("object", "[I"), ("object", "Object")))
        self.assertTrue(fits(small, "a", ("object", "Object"), ("object", "I")))
        self.assertFalse(fits(small, "a", ("object", "[I"), ("object", "I")))
        self.assertTrue(fits(small, "a", ("object", "[I"), ("object", "I"), loose=True))
        self.assertEqual(least(small, "a", ("object", "RuntimeException"), ("object", "Error")), ("object", "Throwable"))
        self.assertEqual(least(small, "a", ("object", "[[I"), ("object", "[LString;")), ("object", "[LObject;"))


class Plain(EntryCase):
    def test_equal_ones_and_top(self):
        for entry in PLAIN + [thing("A"), thing("Gone"), thing("Bad"), thing("[I"), thing("[LGone;")]:
            for loose in (False, True):
                self.fits(True, entry, entry, loose)
                self.fits(True, entry, "top", loose)

    def test_others(self):
        for one, other in itertools.permutations(PLAIN, 2):
            self.fits(other == "top", one, other)
            self.fits(other == "top", one, other, True)

    def test_null_and_objects(self):
        for name in ("A", "Object", "I", "String", "[I", "[LA;", "Gone", "Bad", "[[LGone;"):
            for entry in PLAIN:
                self.fits(entry == "null", entry, thing(name))
                self.fits(entry == "top", thing(name), entry)

    def test_new_and_this(self):
        self.fits(False, ("new", 1), ("new", 2))
        self.fits(False, "this", ("new", 0))
        self.fits(False, ("new", 0), "this")
        self.fits(False, "null", ("new", 0))
        self.fits(False, "null", "this")
        self.fits(False, "this", thing("Object"))
        self.fits(False, ("new", 0), thing("Object"))

    def test_numbers(self):
        self.fits(False, "int", "long")
        self.fits(False, "top", "int")
        self.fits(False, "null", "int")


class Objects(EntryCase):
    def test_a_class_and_its_parents(self):
        for one, above in (("A", "PQ"), ("B", "PQ"), ("P", "Q"), ("Q", ""), ("C", "")):
            for other in "ABPQC":
                self.objects_fit(other == one or other in above, one, other)
                self.objects_fit(other == one or other in above, one, other, loose=True)

    def test_object(self):
        for name in ("A", "I", "String", "[I", "[[LA;", "Object", "Gone", "Bad", "Ring"):
            self.objects_fit(True, name, "Object")
        self.objects_fit(False, "Object", "A")
        self.objects_fit(False, "Object", "String")
        self.objects_fit(False, "Object", "[I")
        self.objects_fit(False, "Object", "[LObject;")

    def test_a_class_of_another_package_called_object(self):
        world = World({"a": {"p/Object": file("p/Object"), "A": file("A")}})
        self.objects_fit(False, "A", "p/Object", world=world)
        self.objects_fit(True, "p/Object", "Object", world=world)

    def test_interfaces_hold_anything(self):
        for name in ("A", "B", "C", "I", "J", "Object", "String", "Cloneable"):
            for interface in ("I", "J", "Cloneable", "Serializable"):
                self.objects_fit(True, name, interface)
        for interface in ("I", "J", "Cloneable"):
            for name in ("A", "C", "String"):
                self.objects_fit(False, interface, name)
            self.objects_fit(True, interface, "Object")

    def test_base_classes(self):
        self.objects_fit(True, "NullPointerException", "Throwable")
        self.objects_fit(False, "Throwable", "NullPointerException")
        self.objects_fit(False, "Error", "Exception")
        self.objects_fit(True, "Error", "Error", loader="base")

    def test_classes_of_other_loaders(self):
        """A name tells what it denotes for the loader, and parents what they are."""
        world = World({"a": {"A": "b", "P": file("P")}, "b": {"A": file("A", "P"), "P": "c"}, "c": {"P": file("P"), "A": "b"}})
        self.objects_fit(False, "A", "P", world=world)
        self.objects_fit(True, "A", "P", world=world, loader="b")
        self.objects_fit(True, "A", "P", world=world, loader="c")
        world = World({"a": {"A": file("A"), "I": "b"}, "b": {"A": file("A"), "I": face("I")}, "c": {"A": "b", "I": file("I")}})
        self.objects_fit(True, "A", "I", world=world)
        self.objects_fit(False, "A", "I", world=world, loader="c")


class Arrays(EntryCase):
    def test_letters(self):
        for one, other in itertools.product("ZBSCIJ", repeat=2):
            for many in range(1, 6):
                self.objects_fit(one == other, "[" * many + one, "[" * many + other)
                self.objects_fit(one == other, "[" * many + one, "[" * many + other, loose=True)

    def test_held_classes(self):
        for many in range(1, 6):
            brackets = "[" * many + "L"
            for one, other, expected in (("A", "P", True), ("A", "Q", True), ("P", "A", False), ("A", "C", False),
                                         ("A", "I", True), ("C", "I", True), ("I", "A", False), ("A", "Object", True),
                                         ("Object", "A", False), ("Object", "I", True)):
                self.objects_fit(expected, brackets + one + ";", brackets + other + ";")

    def test_dimensions(self):
        for one, other, expected in (
                ("[[I", "[LObject;", True), ("[[I", "[LCloneable;", True), ("[[I", "[LSerializable;", True),
                ("[[I", "[LA;", False), ("[[I", "[I", False), ("[I", "[[I", False), ("[LObject;", "[[I", False),
                ("[[[LA;", "[[LObject;", True), ("[[[LA;", "[[LSerializable;", True), ("[[LA;", "[[LObject;", True),
                ("[LA;", "[[LA;", False), ("[LA;", "[[LObject;", False), ("[I", "[LObject;", False), ("[LObject;", "[I", False),
                ("[J", "[LI;", False), ("[LI;", "[I", False), ("[[[[[I", "[[[[LObject;", True), ("[[[[[I", "[[[[[LObject;", False)):
            for loose in (False, True):
                self.objects_fit(expected, one, other, loose=loose)

    def test_classes_that_hold_arrays(self):
        for array in ("[I", "[[J", "[LA;", "[[[LGone;"):
            for other, strict, loose in (("Object", True, True), ("Cloneable", True, True), ("Serializable", True, True),
                                         ("I", False, True), ("J", False, True), ("A", False, False), ("String", False, False)):
                self.objects_fit(strict, array, other)
                self.objects_fit(loose, array, other, loose=True)

    def test_loose_within_arrays(self):
        for many in range(1, 5):
            for array in ("[I", "[LA;"):
                self.objects_fit(False, "[" * many + array, "[" * many + "LI;")
                self.objects_fit(True, "[" * many + array, "[" * many + "LI;", loose=True)
                self.objects_fit(False, "[" * many + array, "[" * many + "LA;", loose=True)

    def test_interfaces_and_classes_do_not_fit_arrays(self):
        for name in ("I", "Cloneable", "Object", "A"):
            for array in ("[I", "[LI;", "[LObject;"):
                self.objects_fit(False, name, array)
                self.objects_fit(False, name, array, loose=True)

    def test_not_every_chain_of_fits_is_one(self):
        self.objects_fit(True, "[I", "Object")
        self.objects_fit(True, "Object", "I")
        self.objects_fit(False, "[I", "I")


class Lost(EntryCase):
    def test_names_that_are_lost(self):
        for name, word in (("Gone", MISSING), ("p/Gone", MISSING), ("Bad", FORMAT), ("Ring", "ClassCircularityError"),
                           ("Child", FORMAT)):
            self.lost(name, word, fits, "A", name)
            self.lost(name, word, fits, name, "A")
            self.lost(name, word, fits, "I", name, loose=True)
            self.lost(name, word, fits, "Object", name)
            self.lost(name, word, fits, "[LA;", "[L" + name + ";")
            self.lost(name, word, fits, "[[L" + name + ";", "[[LA;")

    def test_both(self):
        self.lost("Gone", MISSING, fits, "Bad", "Gone")
        self.lost("Bad", FORMAT, fits, "Gone", "Bad")
        self.lost("Bad", FORMAT, fits, "[[LGone;", "[[LBad;")

    def test_the_name_is_that_of_the_entry(self):
        world = World({"a": {"A": file("A"), "C": file("C", "Gone")}})
        self.raises(NotFound, {"name": "C", "word": MISSING}, fits, world, "a", thing("A"), thing("C"))
        self.raises(NotFound, {"name": "C", "word": MISSING}, least, world, "a", thing("A"), thing("C"))

    def test_names_that_are_not_looked_for(self):
        for name in ("Gone", "Bad", "Ring"):
            array = "[L" + name + ";"
            for loose in (False, True):
                self.objects_fit(True, name, name, loose=loose)
                self.objects_fit(True, array, array, loose=loose)
                self.objects_fit(True, name, "Object", loose=loose)
                self.objects_fit(True, array, "[LObject;", loose=loose)
                self.objects_fit(True, "[" + array, "[[LObject;", loose=loose)
                # An interface holds anything.
                self.objects_fit(True, name, "I", loose=loose)
                self.objects_fit(True, array, "[LI;", loose=loose)
                self.objects_fit(False, name, "[I", loose=loose)
                self.objects_fit(False, "[I", array, loose=loose)
                self.objects_fit(False, array, "[I", loose=loose)
                self.objects_fit(False, array, "[[I", loose=loose)
                self.objects_fit(True, array, "Cloneable", loose=loose)
                self.fits(True, "null", thing(name), loose)
                self.fits(False, "this", thing(name), loose)
                self.fits(True, thing(name), "top", loose)

    def test_arrays_ask_for_interfaces_only_loosely(self):
        for array, gone in (("[I", "Gone"), ("[LA;", "Gone"), ("[LBad;", "Gone")):
            self.objects_fit(False, array, gone)
            self.lost(gone, MISSING, fits, array, gone, loose=True)
            self.objects_fit(False, "[" + array, "[L" + gone + ";")
            self.lost(gone, MISSING, fits, "[" + array, "[L" + gone + ";", loose=True)
        self.objects_fit(False, "[LGone;", "A")
        self.objects_fit(False, "[LGone;", "A", loose=True)


class Least(EntryCase):
    def test_plain(self):
        for entry in PLAIN + [thing("A"), thing("Gone"), thing("[LGone;")]:
            self.least(entry, entry, entry)
        for one, other in itertools.permutations(PLAIN, 2):
            self.least("top", one, other)

    def test_objects_and_plain_ones(self):
        for name in ("A", "Object", "I", "[I", "[[LA;", "Gone", "Bad", "[LGone;"):
            for entry in PLAIN:
                self.least(thing(name) if entry == "null" else "top", entry, thing(name))

    def test_classes(self):
        for one, other, expected in (("A", "B", "P"), ("A", "P", "P"), ("A", "Q", "Q"), ("A", "C", "Object"), ("P", "Q", "Q"),
                                     ("A", "Object", "Object"), ("A", "String", "Object"), ("B", "P", "P")):
            self.least_object(expected, one, other)
        self.least_object("LinkageError", "CodeError", "NoSuchFieldError")
        self.least_object("Throwable", "StackOverflowError", "ArithmeticException", loader="base")

    def test_interfaces(self):
        for one, other in (("I", "J"), ("A", "I"), ("I", "Object"), ("C", "Cloneable"), ("Cloneable", "Serializable")):
            self.least_object("Object", one, other)

    def test_arrays(self):
        for one, other, expected in (
                ("[LA;", "[LB;", "[LP;"), ("[[LA;", "[[LB;", "[[LP;"), ("[[[[[LA;", "[[[[[LC;", "[[[[[LObject;"),
                ("[[LA;", "[LA;", "[LObject;"), ("[[I", "[[J", "[LObject;"), ("[[[I", "[[J", "[LObject;"),
                ("[[[I", "[[LA;", "[[LObject;"), ("[[I", "[LI;", "[LObject;"), ("[LA;", "[LI;", "[LObject;"),
                ("[LA;", "[LObject;", "[LObject;"), ("[LA;", "[LP;", "[LP;"), ("[[I", "[LCloneable;", "[LObject;")):
            self.least_object(expected, one, other)

    def test_arrays_of_letters(self):
        for one, other in itertools.permutations(["[Z", "[B", "[S", "[C", "[I", "[J", "[LA;", "[LObject;", "[[I"], 2):
            self.least_object("[LObject;" if {one, other} <= {"[LA;", "[LObject;", "[[I"} else "Object", one, other)

    def test_an_array_and_a_class(self):
        for array in ("[I", "[LA;", "[[LGone;"):
            for name in ("A", "I", "Object", "Cloneable", "Gone", "Bad"):
                self.least_object("Object", array, name)
                self.least_object("[LObject;", "[" + array, "[L" + name + ";")

    def test_a_parent_that_the_loader_does_not_know(self):
        loaders = {"a": {"A": "b", "B": "b"},
                   "b": {"A": file("A", "P"), "B": file("B", "P"), "P": file("P", "Q"), "Q": file("Q")}}
        for told, expected in (({}, "Object"), ({"Q": "b"}, "Q"), ({"P": "b"}, "P"), ({"P": file("P")}, "Object"),
                               ({"P": file("P"), "Q": "b"}, "Q"), ({"P": file("P"), "Q": file("Q")}, "Object"),
                               ({"P": "b", "Q": file("Q")}, "P")):
            world = World({"a": {**loaders["a"], **told}, "b": loaders["b"]})
            self.least_object(expected, "A", "B", world=world)
            self.least_object("[L" + expected + ";", "[LA;", "[LB;", world=world)
            self.least_object("P", "A", "B", world=world, loader="b")

    def test_a_class_counts_as_its_own_parent(self):
        loaders = {"a": {"A": "b", "P": "b"}, "b": {"A": file("A", "P"), "P": file("P", "Q"), "Q": file("Q")}}
        self.least_object("P", "A", "P", world=World(loaders))
        # What is P for the one loader is no parent of A.
        loaders["a"] = {"A": "b", "P": file("P", "Q"), "Q": "b"}
        self.least_object("Q", "A", "P", world=World(loaders))

    def test_lost(self):
        for name, word in (("Gone", MISSING), ("Bad", FORMAT), ("Ring", "ClassCircularityError"), ("Child", FORMAT)):
            for other in ("A", "I", "Object", "Cloneable"):
                for one, two in ((name, other), (other, name)):
                    self.lost(name, word, least, one, two)
                    self.lost(name, word, least, "[[L" + one + ";", "[[L" + two + ";")

    def test_both_lost(self):
        self.lost("Gone", MISSING, least, "Gone", "Bad")
        self.lost("Bad", FORMAT, least, "Bad", "Gone")
        self.lost("Bad", FORMAT, least, "[LBad;", "[LGone;")

    def test_both_fit_the_least_one(self):
        names = ["A", "B", "P", "Q", "C", "I", "J", "Object", "String", "Cloneable"]
        names += ["[I", "[J", "[[I", "[LA;", "[LB;", "[LI;", "[LObject;", "[[LA;", "[[[I"]
        entries = PLAIN + [thing(name) for name in names]
        for one, other in itertools.product(entries, repeat=2):
            found = least(self.world, "a", one, other)
            self.fits(True, one, found)
            self.fits(True, other, found)
            # No class that is no interface, and for which both fit, is below it.
            for wanted in ("A", "B", "P", "Q", "C", "String"):
                if fits(self.world, "a", one, thing(wanted)) and fits(self.world, "a", other, thing(wanted)):
                    self.fits(True, found, thing(wanted))


class Facts(EntryCase):
    def test_chains_of_classes(self):
        names = ["A", "B", "P", "Q", "C", "I", "J", "Object", "String", "Cloneable", "Error", "LinkageError"]
        for t, u, v in itertools.product(names, repeat=3):
            for loose in (False, True):
                if fits(self.world, "a", thing(t), thing(u), loose=loose) and fits(
                        self.world, "a", thing(u), thing(v), loose=loose):
                    self.objects_fit(True, t, v, loose=loose)

    def test_what_fits_fits_loosely(self):
        names = ["A", "P", "I", "Object", "Cloneable", "[I", "[J", "[[I", "[LA;", "[LP;", "[LI;", "[LObject;", "[[LA;"]
        for one, other in itertools.product(names, repeat=2):
            if fits(self.world, "a", thing(one), thing(other)):
                self.objects_fit(True, one, other, loose=True)

    def test_classes_without_arrays(self):
        """[4.2] told by the lines alone."""
        names = ["A", "B", "P", "Q", "C", "I", "J", "Object", "String", "Serializable"]
        for one, other in itertools.product(names, repeat=2):
            target = denoted(self.world, "a", other)
            below = target in line(self.world, denoted(self.world, "a", one))
            self.objects_fit(is_interface(self.world, target) or below, one, other)


class Arguments(EntryCase):
    def test_no_loaders(self):
        for loader in no_strings() + ["", "b", "A", "aa"]:
            for one, other in (("top", "top"), (thing("A"), thing("Gone")), (None, None), ("int", 5)):
                for function in (fits, least):
                    self.raises(NoLoader, {"loader": loader}, function, self.world, loader, one, other)

    def test_no_entries(self):
        things = no_strings() + [
            "", "Top", "TOP", "float", "double", "new", "object", "A", b"top", ["top"], ("top",), ("int", "int"),
            ("object",), ("object", "A", "A"), ["object", "A"], ("object", None), ("object", "LA;"), ("object", "["),
            ("object", "[V"), ("object", "[LA"), ("object", "[[[[[[I"), ("object", ""), ("object", "A/"), ("object", ["A"]),
            ("object", 5), ("Object", "A"), ("new",), ("new", -1), ("new", 65536), ("new", True), ("new", False), ("new", None),
            ("new", "0"), ("new", 1.0), ["new", 0], ("new", 0, 0), ("null", 0), (None, 0), ([], []), ("this", "A")]
        for function in (fits, least):
            for entry in things:
                for good in ("top", "int", thing("A"), thing("Gone")):
                    self.raises(NoEntry, {"entry": entry}, function, self.world, "a", entry, good)
                    self.raises(NoEntry, {"entry": entry}, function, self.world, "a", good, entry)
                self.raises(NoEntry, {"entry": entry}, function, self.world, "a", entry, entry)

    def test_the_first_wrong_one_is_told(self):
        for function in (fits, least):
            self.raises(NoEntry, {"entry": 1}, function, self.world, "a", 1, 2)
            self.raises(NoEntry, {"entry": 2}, function, self.world, "a", thing("Gone"), 2)
            self.raises(NoLoader, {"loader": 0}, function, self.world, 0, 1, 2)

    def test_the_greatest_numbers(self):
        for number in (0, 1, 200, 65535):
            self.fits(True, ("new", number), ("new", number))
            self.fits(True, ("new", number), "top")
            self.least("top", ("new", number), ("new", 7))

    def test_interface(self):
        self.assertEqual(str(inspect.signature(fits)), "(world, loader, one, other, *, loose=False)")
        self.assertEqual(str(inspect.signature(least)), "(world, loader, one, other)")
        self.assertEqual({fits.__module__, least.__module__}, {types.__name__})
        self.assertTrue(fits(world=self.world, loader="a", one=thing("A"), other=thing("P"), loose=False))
        self.assertEqual(least(world=self.world, loader="a", one="int", other="int"), "int")


if __name__ == "__main__":
    unittest.main()
