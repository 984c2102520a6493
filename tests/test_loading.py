"""What names denote, and the errors of classes: [9.2], [9.5], [9.14]."""

import inspect
import itertools
import unittest

from helpers import ErrorCase, code, face, file, no_strings, odd_things
from typegate import loading
from typegate.errors import NoLoader, NotDefined
from typegate.loading import denoted, interfaces_of, is_below, line, loading_error
from typegate.worlds import World

CIRCLE = "ClassCircularityError"
FORMAT = "ClassFormatError"
CHANGE = "IncompatibleClassChangeError"
ACCESS = "IllegalAccessError"
MISSING = "NoClassDefFoundError"


class LoadingCase(ErrorCase):
    def errors(self, loaders, expected):
        """Compare the errors of some classes, whatever the order of the keys and of the asking."""
        for world in (World(loaders), World({loader: dict(reversed(loaders[loader].items())) for loader in loaders})):
            for name in list(expected) + list(reversed(expected)):
                cls = name if isinstance(name, tuple) else ("a", name)
                self.assertEqual(loading_error(world, cls), expected[name], cls)


class Denoted(LoadingCase):
    def setUp(self):
        self.world = World({
            "a": {"A": file("A"), "X": "b", "p/X": "c", "String": "b", "Gone": "c", "Base": "base", "Error": "base"},
            "b": {"A": file("A"), "X": "c", "Y": "a"},
            "c": {"X": file("X"), "p/X": file("p/X"), "Object": "a"},
            "base": {"Extra": file("Extra")},
            "d": {}})

    def test_defined(self):
        for loader, name in (("a", "A"), ("b", "A"), ("c", "X"), ("c", "p/X"), ("base", "Extra"), ("base", "Object")):
            found = denoted(self.world, loader, name)
            self.assertEqual(found, (loader, name))
            self.assertIs(type(found), tuple)

    def test_asked(self):
        self.assertEqual(denoted(self.world, "b", "X"), ("c", "X"))
        self.assertEqual(denoted(self.world, "a", "X"), ("c", "X"))
        self.assertEqual(denoted(self.world, "a", "p/X"), ("c", "p/X"))

    def test_nothing(self):
        for loader, name in (("a", "B"), ("a", "a"), ("b", "p/X"), ("c", "A"), ("d", "A"), ("base", "A"), ("a", "Extra"),
                             ("b", "Y"), ("a", "Gone"), ("a", "Base"), ("d", "Base")):
            self.assertIsNone(denoted(self.world, loader, name), (loader, name))

    def test_asked_of_base(self):
        world = World({"a": {"Extra": "base", "X": "b"}, "b": {"X": "base"}, "base": {"Extra": file("Extra"), "X": file("X")}})
        self.assertEqual(denoted(world, "a", "Extra"), ("base", "Extra"))
        self.assertEqual(denoted(world, "a", "X"), ("base", "X"))
        self.assertIsNone(denoted(world, "b", "Extra"))

    def test_base_classes(self):
        for loader in ("a", "b", "c", "d", "base"):
            for name in ("Object", "String", "Cloneable", "Error", "NullPointerException"):
                self.assertEqual(denoted(self.world, loader, name), ("base", name))

    def test_it_looks_at_names_alone(self):
        world = World({"a": {"A": file("B"), "X": file("X", flags=["static"])}})
        self.assertEqual(denoted(world, "a", "A"), ("a", "A"))
        self.assertEqual(denoted(world, "a", "X"), ("a", "X"))
        self.assertIsNone(denoted(world, "a", "B"))

    def test_any_object_as_a_name(self):
        for thing in no_strings() + ["", "[I", "[LA;", "LA;", "I", "A/", "/A", "p.X", "A" * 61, ("a", "A"), ["A"]]:
            for loader in ("a", "base"):
                self.assertIsNone(denoted(self.world, loader, thing))

    def test_no_loaders(self):
        for thing in no_strings() + ["", "e", "A", "ab", "Base", "base ", "x" * 11]:
            for name in ("A", "Object", None, []):
                self.raises(NoLoader, {"loader": thing}, denoted, self.world, thing, name)
        self.assertEqual(denoted(World({}), "base", "Object"), ("base", "Object"))
        self.raises(NoLoader, {"loader": "a"}, denoted, World({}), "a", "Object")


# Each thing that is wrong with a class X, as far as one ClassFile tells it. The world has the other classes
# below, too.
WRONG = {
    "another name": (file("Y"), MISSING),
    "an interface of another name": (face("Y"), MISSING),
    "no form": (file("X", flags=["static"]), FORMAT),
    "no form of a method": (file("X", methods=[("m", "()V", [], None)]), FORMAT),
    "an interface without form": (face("X", flags=["interface"]), FORMAT),
    "no parent there": (file("X", "Gone"), MISSING),
    "a parent that is not public": (file("X", "q/Hidden"), ACCESS),
    "a parent that is an interface": (file("X", "I"), CHANGE),
    "a parent that is final": (file("X", "Last"), CHANGE),
    "no interface there": (file("X", interfaces=["Gone"]), MISSING),
    "an interface that is not there, of an interface": (face("X", ["I", "Gone"]), MISSING),
    "an interface that is not public": (file("X", interfaces=["q/Secret"]), ACCESS),
    "an interface that is a class": (file("X", interfaces=["I", "P"]), CHANGE),
    "an interface of an interface that is a class": (face("X", ["P"]), CHANGE),
    "Object as an interface": (file("X", interfaces=["Object"]), CHANGE),
    "a final class as an interface": (file("X", interfaces=["Last"]), CHANGE),
    "a final method is overridden": (file("X", "Fixed", methods=[("m", "()V", ["public"], code(places=1))]), CHANGE),
    "its own parent": (file("X", "X"), CIRCLE),
    "its own interface": (face("X", ["X"]), CIRCLE),
}
OTHERS = {
    "P": file("P"),
    "I": face("I"),
    "Last": file("Last", flags=["public", "final"]),
    "Fixed": file("Fixed", methods=[("m", "()V", ["public", "final"], code(places=1))]),
    "q/Hidden": file("q/Hidden", flags=[]),
    "q/Secret": face("q/Secret", flags=["abstract", "interface"]),
}


class Errors(LoadingCase):
    def test_none(self):
        self.errors({"a": OTHERS}, {name: None for name in OTHERS})
        self.errors({"a": {"A": file("A", "P", ["I", "J"]), "J": face("J", ["I"]), **OTHERS}}, {"A": None, "J": None})

    def test_base_classes(self):
        for world in (World({}), World({"a": {"Object": "base"}})):
            for name in ("Object", "String", "Cloneable", "Serializable", "Throwable", "CodeError", "ClassFormatError"):
                self.assertIsNone(loading_error(world, ("base", name)))

    def test_more_classes_of_the_base_loader(self):
        self.errors({"base": {"A": file("A"), "B": file("B", "A"), "C": file("X"), "D": file("D", flags=["native"]),
                              "E": file("E", methods=[("<init>", "()V", ["public", "native"], None)])}},
                    {("base", "A"): None, ("base", "B"): None, ("base", "C"): MISSING, ("base", "D"): FORMAT,
                     ("base", "E"): FORMAT})

    def test_in_the_class_itself(self):
        for told, (held, error) in WRONG.items():
            with self.subTest(told):
                self.errors({"a": {"X": held, **OTHERS}}, {"X": error, "P": None, "I": None})

    def test_in_a_parent(self):
        for told, (held, error) in WRONG.items():
            with self.subTest(told):
                self.errors({"a": {"X": held, "A": file("A", "X"), "B": file("B", "A"), **OTHERS}},
                            {"A": error, "B": error, "X": error})

    def test_in_an_interface(self):
        for told, (held, error) in WRONG.items():
            with self.subTest(told):
                self.errors({"a": {"X": held, "A": file("A", "P", ["I", "X"]), "J": face("J", ["X"]),
                                   "K": face("K", ["I", "J"]), "B": file("B", interfaces=["K"]), **OTHERS}},
                            {"A": error, "J": error, "K": error, "B": error, "X": error, "I": None})

    def test_in_an_interface_of_a_parent(self):
        for told, (held, error) in WRONG.items():
            with self.subTest(told):
                self.errors({"a": {"X": held, "A": file("A", "B"), "B": file("B", "P", ["X"]), **OTHERS}},
                            {"A": error, "B": error})

    def test_of_another_loader(self):
        for told, (held, error) in WRONG.items():
            with self.subTest(told):
                self.errors({"b": {"X": held, **OTHERS}, "a": {"A": file("A", "X"), "X": "b", "P": file("P"),
                                                               "B": file("B", interfaces=["X"])}},
                            {"A": error, ("b", "X"): error, "B": error})

    def test_names_are_those_of_the_loader_that_defines_the_class(self):
        loaders = {"a": {"A": file("A", "P"), "P": "b", "Q": file("Q", flags=["static"]), "I": file("I")},
                   "b": {"P": file("P", "Q", ["I"]), "Q": file("Q"), "I": face("I")}}
        self.errors(loaders, {"A": None, "Q": FORMAT, ("b", "P"): None})
        loaders["b"] = {"P": file("P", "Q", ["I"]), "Q": "a", "I": face("I")}
        self.errors(loaders, {"A": FORMAT, ("b", "P"): FORMAT})
        loaders["b"] = {"P": file("P", "Q")}
        self.errors(loaders, {"A": MISSING, ("b", "P"): MISSING})

    def test_an_interface_has_object_as_its_parent(self):
        self.errors({"a": {"I": file("I", "P", flags=["public", "abstract", "interface"]), "P": file("P")}}, {"I": FORMAT})


class Order(LoadingCase):
    def test_the_first_that_applies(self):
        last = ("m", "()V", ["public"], code(places=1))
        for held, error in (
                (file("Y", flags=["static"]), MISSING),
                (file("X", "Gone", flags=["static"]), FORMAT),
                (file("X", "Last", ["Gone"]), CHANGE),
                (file("X", "I", ["q/Secret"]), CHANGE),
                (file("X", "q/Hidden", ["P"]), ACCESS),
                (file("X", "Gone", ["P"]), MISSING),
                (file("X", "P", ["Gone", "P"]), MISSING),
                (file("X", "P", ["P", "Gone"]), CHANGE),
                (file("X", "P", ["q/Secret", "Gone", "P"]), ACCESS),
                (file("X", "P", ["I", "Bad", "Gone"]), FORMAT),
                (file("X", "Bad", ["Gone"]), FORMAT),
                (file("X", "Fixed", ["Gone"], methods=[last]), MISSING),
                (file("X", "Fixed", ["q/Secret"], methods=[last]), ACCESS),
                (file("X", "Fixed", ["I"], methods=[last]), CHANGE)):
            self.errors({"a": {"X": held, "Bad": file("Bad", flags=["static"]), **OTHERS}}, {"X": error})

    def test_within_one_parent(self):
        """Its own error goes ahead of access, and this ahead of what it is."""
        self.errors({"a": {
            "A": file("A", "q/Bad"), "q/Bad": file("q/Bad", "Gone", flags=["final"]),
            "B": file("B", "q/Last"), "q/Last": file("q/Last", flags=["final"]),
            "C": file("C", "q/I"), "q/I": face("q/I", flags=["abstract", "interface"])}},
            {"A": MISSING, "B": ACCESS, "C": ACCESS})

    def test_within_one_interface(self):
        self.errors({"a": {
            "A": file("A", interfaces=["q/Bad"]), "q/Bad": file("q/Bad", "Gone", flags=[]),
            "B": file("B", interfaces=["q/C"]), "q/C": file("q/C", flags=[]),
            "C": file("C", interfaces=["C2"]), "C2": file("C2", flags=[])}},
            {"A": MISSING, "B": ACCESS, "C": CHANGE})


class Access(LoadingCase):
    def test_packages(self):
        for parent, name, error in (
                ("P", "A", None), ("p/P", "p/A", None), ("p/q/P", "p/q/A", None), ("p/P", "A", ACCESS), ("P", "p/A", ACCESS),
                ("p/P", "q/A", ACCESS), ("p/q/P", "p/A", ACCESS), ("p/P", "p/q/A", ACCESS), ("p/P", "pp/A", ACCESS)):
            for flags in ([], ["abstract"]):
                self.errors({"a": {parent: file(parent, flags=flags), name: file(name, parent)}}, {name: error})
            self.errors({"a": {parent: face(parent, flags=["abstract", "interface"]), name: file(name, "Object", [parent])}},
                        {name: error})
            self.errors({"a": {parent: face(parent, flags=["abstract", "interface"]), name: face(name, [parent])}},
                        {name: error})
            self.errors({"a": {parent: file(parent), name: file(name, parent)}}, {name: None})

    def test_a_package_of_the_same_name_of_another_loader(self):
        for package in ("", "p/", "p/q/"):
            name, parent = package + "A", package + "P"
            loaders = {"a": {name: file(name, parent), parent: "b"}, "b": {parent: file(parent, flags=[]), name: file(name, parent)}}
            self.errors(loaders, {name: ACCESS, ("b", name): None, ("b", parent): None})
            loaders["b"][parent] = file(parent)
            self.errors(loaders, {name: None, ("b", name): None})

    def test_a_package_of_the_base_classes(self):
        self.errors({"base": {"P": file("P", flags=[]), "B": file("B", "P")}, "a": {"P": "base", "A": file("A", "P")}},
                    {"A": ACCESS, ("base", "B"): None})


class Rings(LoadingCase):
    def test_parents(self):
        for many in range(1, 6):
            names = ["R" + str(k) for k in range(many)]
            ring = {name: file(name, names[(k + 1) % many]) for k, name in enumerate(names)}
            self.errors({"a": {**ring, "A": file("A", "R0"), "B": file("B", interfaces=["A"]), "C": file("C")}},
                        {**{name: CIRCLE for name in names}, "A": CIRCLE, "B": CIRCLE, "C": None})

    def test_interfaces(self):
        for many in range(1, 6):
            names = ["R" + str(k) for k in range(many)]
            ring = {name: face(name, ["I", names[(k + 1) % many]]) for k, name in enumerate(names)}
            self.errors({"a": {**ring, "I": face("I"), "A": file("A", interfaces=["I", "R0"]), "J": face("J", ["R0"])}},
                        {**{name: CIRCLE for name in names}, "A": CIRCLE, "J": CIRCLE, "I": None})

    def test_both(self):
        self.errors({"a": {"A": file("A", "B"), "B": file("B", interfaces=["I"]), "I": face("I", ["J"]),
                           "J": face("J", ["A"]), "D": file("D", "A"), "E": file("E", interfaces=["J"])}},
                    {name: CIRCLE for name in "ABIJDE"})

    def test_over_loaders(self):
        loaders = {"a": {"A": file("A", "B"), "B": "b"}, "b": {"B": file("B", "A"), "A": "a"}}
        self.errors(loaders, {"A": CIRCLE, ("b", "B"): CIRCLE})
        loaders["b"]["A"] = file("A")
        self.errors(loaders, {"A": None, ("b", "B"): None, ("b", "A"): None})

    def test_other_errors_ahead_of_the_ring(self):
        self.errors({"a": {"A": file("A", "B"), "B": file("B", "Gone", ["I"]), "I": face("I", ["A"])}},
                    {name: MISSING for name in "ABI"})
        self.errors({"a": {"A": file("A", "P", ["I", "J"]), "P": file("P"), "I": face("I", ["P"]), "J": face("J", ["J"])}},
                    {"A": CHANGE, "I": CHANGE, "J": CIRCLE, "P": None})

    def test_other_errors_behind_the_ring(self):
        self.errors({"a": {"A": file("A", "B", ["Gone"]), "B": file("B", "A", ["A", "q/C"]), "q/C": file("q/C", flags=[])}},
                    {"A": CIRCLE, "B": CIRCLE, "q/C": None})
        # That a class of a ring is not accessible, final, or an interface, is looked at behind its error.
        self.errors({"a": {"p/A": file("p/A", "q/B", flags=["final"]), "q/B": file("q/B", "p/A", flags=[]),
                           "C": file("C", "p/A"), "D": file("D", interfaces=["p/A"])}},
                    {"p/A": CIRCLE, "q/B": CIRCLE, "C": CIRCLE, "D": CIRCLE})

    def test_a_broken_class_ends_a_ring(self):
        self.errors({"a": {"A": file("A", "B"), "B": file("X", "A")}}, {"A": MISSING, "B": MISSING})
        self.errors({"a": {"A": file("A", "B"), "B": file("B", "A", flags=["native"])}}, {"A": FORMAT, "B": FORMAT})

    def test_two_ways_to_one_class_are_no_ring(self):
        many = 19
        held = {"I0": face("I0"), "J0": face("J0")}
        for k in range(1, many):
            above = ["I" + str(k - 1), "J" + str(k - 1)]
            held["I" + str(k)] = face("I" + str(k), above)
            held["J" + str(k)] = face("J" + str(k), above)
        held["A"] = file("A", interfaces=["I18", "J18"])
        self.errors({"a": held}, {name: None for name in held})


class Plainly:
    """The text of [9.2], word by word, for loaders without methods: the same question is asked again and again."""

    def __init__(self, world, loader):
        self.world = world
        self.loader = loader

    def error(self, name, going=()):
        if name in going:
            return CIRCLE
        if name == "Object":
            return None
        held = self.world.file_of((self.loader, name))
        if held.name != name:
            return MISSING
        for above, as_interface in [(held.parent, False)] + [(above, True) for above in held.interfaces]:
            error = self.error_above(above, going + (name,), as_interface)
            if error is not None:
                return error
        return None

    def error_above(self, above, going, as_interface):
        if denoted(self.world, self.loader, above) is None:
            return MISSING
        error = self.error(above, going)
        if error is not None:
            return error
        flags = ("public",) if above == "Object" else self.world.file_of((self.loader, above)).flags
        if as_interface:
            return None if "interface" in flags else CHANGE
        return CHANGE if "interface" in flags or "final" in flags else None


class AllSmallWorlds(LoadingCase):
    """Three classes, each with any parent and any interfaces among them, come to the same error from everywhere."""

    def test_them(self):
        names = ["A", "B", "C"]
        kinds = []
        for interfaces in ((), ("A",), ("C",), ("B", "Gone")):
            kinds += [lambda name, parent=parent, told=interfaces: file(name, parent, told)
                      for parent in ("Object", "A", "B", "C")]
            kinds.append(lambda name, told=interfaces: face(name, told))
        for makes in itertools.product(kinds, repeat=3):
            held = {name: make(name) for name, make in zip(names, makes)}
            world = World({"a": held})
            plainly = Plainly(world, "a")
            for name in names:
                self.assertEqual(loading_error(world, ("a", name)), plainly.error(name))


class Arguments(LoadingCase):
    def test_no_classes(self):
        world = World({"a": {"A": file("A"), "X": "b", "B": file("C")}, "b": {"X": file("X")}})
        things = no_strings() + [
            "A", "", ("a", "C"), ("a", "X"), ("b", "A"), ("c", "A"), ("a", "Object"), ("a", "[LA;"), ("base", "[I"),
            ("a", "LA;"), ["a", "A"], ("a",), ("a", "A", "A"), ("A", "a"), (None, "A"), ("a", None), ([], []), ("a", 1)]
        for thing in things:
            for function in (loading_error, line, interfaces_of):
                self.raises(NotDefined, {"cls": thing}, function, world, thing)

    def test_they_know_the_very_thing(self):
        world = World({})
        for thing in odd_things():
            try:
                loading_error(world, thing)
            except NotDefined as error:
                self.assertIs(error.cls, thing)

    def test_interface(self):
        for function, told in ((denoted, "(world, loader, name)"), (loading_error, "(world, cls)"), (line, "(world, cls)"),
                               (interfaces_of, "(world, cls)"), (is_below, "(world, one, other)")):
            self.assertEqual(str(inspect.signature(function)), told)
            self.assertEqual(function.__module__, loading.__name__)

    def test_nothing_that_is_passed_is_kept_or_changed(self):
        inner = {"A": file("A", "P"), "P": file("P")}
        loaders = {"a": inner}
        world = World(loaders)
        self.assertEqual((list(loaders), list(inner)), (["a"], ["A", "P"]))
        del inner["P"]
        loaders["b"] = {}
        self.assertIsNone(loading_error(world, ("a", "A")))
        self.assertEqual(denoted(world, "a", "P"), ("a", "P"))
        self.raises(NoLoader, {"loader": "b"}, denoted, world, "b", "A")


if __name__ == "__main__":
    unittest.main()
