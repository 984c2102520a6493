"""Worlds: [3.1] to [3.4]."""

import unittest

from helpers import PLAIN, file, no_strings, odd_things
from typegate import worlds
from typegate.classes import ClassFile
from typegate.errors import NotDefined, NoWorld
from typegate.worlds import World

# Each base class ahead of those that stand below it.
BELOW = {
    "Object": ["Class", "String", "Throwable"],
    "Throwable": ["Error", "Exception"],
    "Error": ["LinkageError", "StackOverflowError"],
    "LinkageError": ["ClassCircularityError", "ClassFormatError", "ExceptionInInitializerError",
                     "IncompatibleClassChangeError", "NoClassDefFoundError", "UnsatisfiedLinkError", "CodeError"],
    "IncompatibleClassChangeError": ["AbstractMethodError", "IllegalAccessError", "InstantiationError",
                                     "NoSuchFieldError", "NoSuchMethodError"],
    "Exception": ["CloneNotSupportedException", "RuntimeException"],
    "RuntimeException": ["ArithmeticException", "ArrayStoreException", "ClassCastException",
                         "IllegalMonitorStateException", "IndexOutOfBoundsException", "NegativeArraySizeException",
                         "NullPointerException"],
    "IndexOutOfBoundsException": ["ArrayIndexOutOfBoundsException"],
}
FACES = ["Cloneable", "Serializable"]
BASE = ["Object"] + FACES + [name for parent in BELOW for name in BELOW[parent]]
INIT = ("<init>", "()V", ("public", "native"), None)


class WorldCase(unittest.TestCase):
    def wrong(self, loaders, loader, name):
        for turned in (loaders, self.turned(loaders)):
            with self.assertRaises(NoWorld) as caught:
                World(turned)
            self.assertEqual((caught.exception.loader, caught.exception.name), (loader, name))

    def turned(self, loaders):
        """The same dicts, with their keys in the other order."""
        return {loader: {name: loaders[loader][name] for name in reversed(loaders[loader])}
                for loader in reversed(loaders)}

    def not_defined(self, world, thing):
        with self.assertRaises(NotDefined) as caught:
            world.file_of(thing)
        self.assertIs(caught.exception.cls, thing)


class BaseClasses(unittest.TestCase):
    def test_there_are_32(self):
        self.assertEqual(len(set(BASE)), 32)
        self.assertEqual(len(BASE), 32)

    def test_classes(self):
        world = World({})
        for parent in BELOW:
            for name in BELOW[parent]:
                self.assertEqual(world.file_of(("base", name)), ClassFile(name, parent, [], ["public"], [], [INIT]))

    def test_interfaces(self):
        world = World({})
        for name in FACES:
            self.assertEqual(world.file_of(("base", name)),
                             ClassFile(name, "Object", [], ["public", "abstract", "interface"], [], []))

    def test_object(self):
        self.assertEqual(World({}).file_of(("base", "Object")), ClassFile("Object", None, [], ["public"], [], [
            INIT, ("hashCode", "()I", ["public", "native"], None), ("equals", "(LObject;)Z", ["public", "native"], None),
            ("clone", "()LObject;", ["protected", "native"], None)]))

    def test_they_are_there_in_every_world(self):
        for loaders in ({"a": {}}, {"base": {}}, {"base": {"A": file()}}, {"a": {"Object": "base"}}):
            world = World(loaders)
            for name in BASE:
                self.assertEqual(world.file_of(("base", name)).name, name)


class Taken(unittest.TestCase):
    def test_file_of(self):
        one, other = file("A"), file("A", "P")
        world = World({"a": {"A": one, "X": "b"}, "b": {"A": other, "p/X": file("p/X")}, "base": {"C": file("C")}})
        self.assertEqual(world.file_of(("a", "A")), one)
        self.assertEqual(world.file_of(("b", "A")), other)
        self.assertEqual(world.file_of(("b", "p/X")), file("p/X"))
        self.assertEqual(world.file_of(("base", "C")), file("C"))
        self.assertEqual(world.file_of(cls=("a", "A")), one)

    def test_arguments_by_name(self):
        self.assertEqual(World(loaders={"a": {"A": file()}}).file_of(("a", "A")), file())

    def test_the_class_and_its_method_stand_in_their_file(self):
        self.assertEqual(World.__module__, worlds.__name__)
        self.assertIn("__init__", vars(World))
        self.assertIn("file_of", vars(World))

    def test_names_of_loaders(self):
        for loader in ("a", "z", "abcdefghij", "base", "basex", "bas"):
            self.assertEqual(World({loader: {"A": file()}}).file_of((loader, "A")), file())

    def test_asking_that_ends(self):
        for loaders in (
                {"a": {"X": "b"}, "b": {"X": "c"}, "c": {"X": file("X")}},
                {"a": {"X": "b"}, "b": {"X": "c"}, "c": {}},
                {"a": {"X": "b", "Y": file("Y")}, "b": {"Y": "a"}},
                {"a": {"X": "base"}},
                {"a": {"X": "base"}, "base": {}},
                {"a": {"X": "base"}, "base": {"X": file("X")}},
                {"a": {"Object": "b"}, "b": {"Object": "base"}},
                {"a": {"Object": "b"}, "b": {}},
                {"a": {"X": "c"}, "b": {"X": "c"}, "c": {"X": file("X")}}):
            World(loaders)

    def test_a_file_may_have_another_name_and_no_form(self):
        made = ClassFile("B", None, ["I", "I"], ["native"], [], [])
        self.assertEqual(World({"a": {"A": made}}).file_of(("a", "A")), made)

    def test_worlds_of_no_loader(self):
        self.assertEqual(World({}).file_of(("base", "String")).parent, "Object")

    def test_many_loaders_that_ask_in_a_line(self):
        letters = "abcdefghijklmnopqrstuvwxyz"
        names = [one + other for one in letters[:20] for other in letters]
        loaders = {names[k]: {"X": names[k + 1]} for k in range(len(names) - 1)}
        loaders[names[-1]] = {"X": file("X")}
        self.assertEqual(World(loaders).file_of((names[-1], "X")), file("X"))


class Kept(unittest.TestCase):
    def test_dicts_that_are_changed_afterwards_change_nothing(self):
        loaders = {"a": {"A": file(), "B": file("B")}, "b": {"A": "a"}}
        world = World(loaders)
        self.assertEqual(loaders, {"a": {"A": file(), "B": file("B")}, "b": {"A": "a"}})
        loaders["a"]["A"] = file(parent="P")
        loaders["a"]["C"] = file("C")
        loaders["b"]["A"] = file()
        del loaders["a"]["B"]
        loaders["base"] = {"X": file("X")}
        self.assertEqual(world.file_of(("a", "A")), file())
        self.assertEqual(world.file_of(("a", "B")), file("B"))
        for cls in (("a", "C"), ("b", "A"), ("base", "X")):
            with self.assertRaises(NotDefined):
                world.file_of(cls)
        loaders.clear()
        self.assertEqual(world.file_of(("a", "A")), file())

    def test_worlds_are_apart(self):
        World({"base": {"X": file("X")}})
        with self.assertRaises(NotDefined):
            World({}).file_of(("base", "X"))


class Loaders(WorldCase):
    def test_wrong_names(self):
        for loader in ("", "A", "aB", "a1", "a_b", "a/b", "a b", "a\n", "\u00e9", "\u00aa", "abcdefghijk", "BASE", "`", "{"):
            self.wrong({loader: {"A": file()}}, loader, None)
            self.wrong({loader: {}, "a": {"A": None}}, loader, None)

    def test_things_that_are_no_strings(self):
        for thing in (None, True, False, 0, 1, -1, 10 ** 5000, 1.5, 1j, b"a", (), ("a",), (10 ** 5000,), frozenset(), int, len,
                      Ellipsis, range(3)):
            self.wrong({thing: {}, "a": {}}, thing, None)

    def test_all_are_looked_at_ahead_of_the_answers(self):
        self.wrong({"a": {"A": None}, "b": {"": 1}, "z1": {}}, "z1", None)
        self.wrong({"a": {"A": "a"}, "Z": {}, "base": {"Object": file()}}, "Z", None)

    def test_the_first_by_repr_is_told(self):
        self.wrong({"B": {}, "A": {}, "a": {}}, "A", None)
        self.wrong({"B": {}, 1: {}}, "B", None)
        self.wrong({10: {}, 9: {}}, 10, None)
        self.wrong({-1: {}, 0: {}}, -1, None)
        self.wrong({"a$": {}, "A": {}, "A$": {}}, "A$", None)
        self.wrong({None: {}, True: {}, 5: {}}, 5, None)
        self.wrong({(1,): {}, "B": {}, b"B": {}}, "B", None)
        self.wrong({("B", 2): {}, ("B", 10): {}}, ("B", 10), None)


class Answers(WorldCase):
    def test_wrong_names(self):
        for name in ("", "/", "p/", "[I", "LA;", "a" * 31, "A ", "A\n", "\u00e9", None, True, 0, 1.5, b"A", ("A",), ("a", "A"),
                     10 ** 5000):
            for answer in (file(), "a", "b", "base", None):
                self.wrong({"a": {name: answer}, "b": {}}, "a", name)
            self.wrong({"base": {name: file()}}, "base", name)

    def test_answers_that_are_none(self):
        for answer in odd_things() + [None, 0, [], ["a"], (), ("b", "A"), [[]], "", "zz", "A", "B", "Base", PLAIN, ClassFile]:
            if not isinstance(answer, ClassFile):
                self.wrong({"a": {"A": answer}, "b": {"A": file()}}, "a", "A")
                self.wrong({"base": {"A": answer}, "b": {"A": file()}}, "base", "A")

    def test_base_asks_nobody(self):
        for asked in ("a", "base", "zz"):
            self.wrong({"a": {}, "base": {"A": asked}}, "base", "A")
            self.wrong({"a": {}, "base": {"Object": asked}}, "base", "Object")

    def test_base_classes_are_defined_by_nobody_else(self):
        for name in BASE:
            self.wrong({"a": {name: file(name)}}, "a", name)
            self.wrong({"base": {name: file(name)}}, "base", name)
            self.wrong({"a": {name: file("A")}}, "a", name)
        self.wrong({"base": {"Object": World({}).file_of(("base", "Object"))}}, "base", "Object")
        World({"a": {"p/Object": file("p/Object"), "object": file("object"), "Objects": file("Objects")}})


class Rings(WorldCase):
    def test_rings(self):
        self.wrong({"a": {"X": "a"}}, "a", "X")
        self.wrong({"a": {"X": "b"}, "b": {"X": "a"}}, "a", "X")
        self.wrong({"c": {"X": "a"}, "b": {"X": "c"}, "a": {"X": "b"}}, "a", "X")
        self.wrong({"a": {"Object": "b"}, "b": {"Object": "a"}}, "a", "Object")

    def test_coming_into_a_ring(self):
        self.wrong({"a": {"X": "b"}, "b": {"X": "c"}, "c": {"X": "b"}}, "a", "X")
        self.wrong({"a": {"X": "b"}, "b": {"X": "c"}, "c": {"X": "c"}}, "a", "X")
        self.wrong({"b": {"X": "c"}, "c": {"X": "b"}, "a": {"X": file("X")}}, "b", "X")

    def test_rings_of_one_name_are_none_of_another(self):
        World({"a": {"X": "b", "Y": file("Y")}, "b": {"Y": "a", "X": file("X")}})
        self.wrong({"a": {"W": "b", "X": "b"}, "b": {"X": "a"}}, "a", "X")

    def test_rings_through_a_wrong_answer_of_base(self):
        self.wrong({"a": {"X": "base"}, "base": {"X": "a"}}, "a", "X")
        self.wrong({"a": {"X": "base"}, "base": {"X": "base"}}, "a", "X")
        self.wrong({"a": {"X": "b"}, "b": {"X": "base"}, "base": {"X": "b"}}, "a", "X")
        self.wrong({"a": {"Object": "base"}, "base": {"Object": "a"}}, "a", "Object")
        self.wrong({"base": {"X": "c"}, "c": {"X": "base"}}, "base", "X")

    def test_asking_through_a_wrong_answer_that_ends(self):
        self.wrong({"a": {"X": "base"}, "base": {"X": "c"}, "c": {"X": file("X")}}, "base", "X")
        self.wrong({"a": {"X": "b"}, "b": {"X": "zz"}}, "b", "X")
        self.wrong({"a": {"X": "b"}, "b": {"X": ["a"]}}, "b", "X")
        self.wrong({"a": {"X": "b"}, "b": {"X": None}}, "b", "X")

    def test_long_rings(self):
        names = [chr(97 + k) for k in range(26)]
        loaders = {names[k]: {"X": names[(k + 1) % 26]} for k in range(26)}
        self.wrong(loaders, "a", "X")
        loaders["z"] = {"X": "y"}
        self.wrong(loaders, "a", "X")


class Order(WorldCase):
    def test_loaders_ascend(self):
        self.wrong({"b": {"A": None}, "a": {"Z": None}}, "a", "Z")
        self.wrong({"base": {"A": None}, "b": {"Z": None}}, "b", "Z")
        self.wrong({"c": {"A": None}, "base": {"Z": None}}, "base", "Z")
        self.wrong({"ab": {"A": None}, "a": {"Z": None}}, "a", "Z")

    def test_names_ascend_by_repr(self):
        self.wrong({"a": {"B": None, "A": None}}, "a", "A")
        self.wrong({"a": {"A": None, "A$B": None}}, "a", "A$B")
        self.wrong({"a": {"A": None, "A/B": None}}, "a", "A")
        self.wrong({"a": {"b": None, "B": None, "_": None}}, "a", "B")
        self.wrong({"a": {5: file(), "A": None}}, "a", "A")
        self.wrong({"a": {None: file(), 5: file()}}, "a", 5)
        self.wrong({"a": {10: file(), 9: file()}}, "a", 10)

    def test_each_wrong_thing_counts_alike(self):
        things = {"A": 5, "B": "zz", "C": "a", "Object": file("Object"), "p//A": file()}
        for name in sorted(things):
            self.wrong({"a": dict(things)}, "a", name)
            del things[name]
        World({"a": things})


class Undefined(WorldCase):
    def test_names_that_are_only_asked_of_another_loader(self):
        world = World({"a": {"X": "b", "Object": "base"}, "b": {"X": file("X")}})
        self.not_defined(world, ("a", "X"))
        self.assertEqual(world.file_of(("b", "X")), file("X"))

    def test_base_classes_are_of_base_alone(self):
        world = World({"a": {"Object": "base"}, "b": {}})
        for loader in ("a", "b", "c"):
            self.not_defined(world, (loader, "Object"))

    def test_names_that_nobody_defines(self):
        world = World({"a": {"A": file()}})
        for cls in (("a", "B"), ("b", "A"), ("base", "A"), ("a", ""), ("", "A"), ("A", "a"), ("base", "[I"),
                    ("a", "[LA;"), ("a", "LA;"), ("base", "object")):
            self.not_defined(world, cls)

    def test_tuples_of_other_lengths_and_kinds(self):
        world = World({"a": {"A": file()}})
        for thing in [(), ("a",), ("A",), ("a", "A", "A"), (("a", "A"),), ("a", None), (None, "A"), (["a"], "A"),
                      ("a", ["A"]), ({}, {}), (1, 2), (b"a", b"A"), ("a", ("A",)), (True, "A"), (file(), file()),
                      (10 ** 5000, "A")]:
            self.not_defined(world, thing)

    def test_other_things(self):
        world = World({"a": {"A": file()}})
        for thing in no_strings() + ["", "A", "aA", "a", ["a", "A"], [["a", "A"]], {"a": "A"}, {"a", "A"}, world, 10 ** 5000]:
            self.not_defined(world, thing)


if __name__ == "__main__":
    unittest.main()
