"""Which method overrides which, and which one a call runs: [9.10] to [9.14]."""

import itertools
import unittest

from helpers import ErrorCase, code, face, file, odd_things
from typegate.errors import NoMember, NoRow, NotDefined, NotFound
from typegate.loading import line
from typegate.selecting import called, overrides
from typegate.worlds import World

MISSING = "NoClassDefFoundError"
CHANGE = "IncompatibleClassChangeError"
ACCESS = "IllegalAccessError"
ABSTRACT = "AbstractMethodError"
ROOM = code(places=9)
KEY = ("m", "()V")


def method(*flags, name="m", descriptor="()V"):
    return (name, descriptor, flags, None if "abstract" in flags or "native" in flags else ROOM)


def faced(cls, interfaces, *flags, **more):
    return face(cls, interfaces, [method(*flags, **more)] if flags else [])


def classed(cls, parent="Object", interfaces=(), flags=None, abstract=False, **more):
    return file(cls, parent, interfaces, ("public", "abstract") if abstract else ("public",),
                methods=[] if flags is None else [method(*flags, **more)])


class Overriding(ErrorCase):
    def both(self, expected, world, one, other, name="m", descriptor="()V"):
        told = overrides(world, (*one, name, descriptor), (*other, name, descriptor))
        self.assertIs(told, expected, (one, other))

    def test_the_example(self):
        for middle, expected in (("p", True), ("q", False)):
            between = middle + "/B"
            world = World({"a": {"p/A": classed("p/A", flags=[], name="go"), between: classed(between, "p/A", flags=["public"], name="go"),
                                 "r/C": classed("r/C", between, flags=["public"], name="go")}})
            self.both(True, world, ("a", "r/C"), ("a", between), "go")
            self.both(expected, world, ("a", between), ("a", "p/A"), "go")
            self.both(expected, world, ("a", "r/C"), ("a", "p/A"), "go")

    def test_flags(self):
        for above, below in itertools.product([(), ("public",), ("protected",), ("private",), ("static",), ("abstract",)], repeat=2):
            world = World({"a": {"P": classed("P", flags=above), "A": classed("A", "P", flags=below)}})
            right = not {"private", "static"} & {*above, *below}
            self.both(right, world, ("a", "A"), ("a", "P"))
            self.both(False, world, ("a", "P"), ("a", "A"))
            self.both(False, world, ("a", "A"), ("a", "A"))

    def test_packages(self):
        for flags, expected in (((), False), (("protected",), True), (("public",), True)):
            world = World({"a": {"p/P": classed("p/P", flags=flags), "A": classed("A", "p/P", flags=["public"])}})
            self.both(expected, world, ("a", "A"), ("a", "p/P"))
            world = World({"a": {"P": "b", "A": classed("A", "P", flags=["public"])}, "b": {"P": classed("P", flags=flags)}})
            self.both(expected, world, ("a", "A"), ("b", "P"))

    def test_over_classes_between(self):
        # In each place of a line of four, a class of the package p or q, with a method that is unmarked, public, or none.
        for packages in itertools.product("pq", repeat=4):
            for flags in itertools.product([None, (), ("public",)], repeat=3):
                names = [package + "/C" + str(k) for k, package in enumerate(packages)]
                told = {}
                for k, name in enumerate(names):
                    told[name] = classed(name, names[k - 1] if k else "Object", flags=((), *flags)[k])
                world = World({"a": told})
                if flags[2] is not None:
                    expected = self.overrides(packages, ((), *flags), 3, 0)
                    self.both(expected, world, ("a", names[3]), ("a", names[0]))

    def overrides(self, packages, flags, one, other):
        """The words of [9.10], for the places of two classes in a line."""
        if flags[other] == ("public",) or packages[one] == packages[other]:
            return True
        return any(flags[k] is not None and self.overrides(packages, flags, k, other) and self.overrides(packages, flags, one, k)
                   for k in range(other + 1, one))

    def test_other_names(self):
        world = World({"a": {"P": file("P", methods=[method("public"), method("public", name="n"), method("public", descriptor="()I")]),
                             "A": classed("A", "P", flags=["public"])}})
        own = ("a", "A", "m", "()V")
        self.assertTrue(overrides(world, own, ("a", "P", "m", "()V")))
        self.assertFalse(overrides(world, own, ("a", "P", "n", "()V")))
        self.assertFalse(overrides(world, own, ("a", "P", "m", "()I")))

    def test_inits(self):
        world = World({"a": {"P": classed("P", flags=["public"], name="<init>"), "A": classed("A", "P", flags=["public"], name="<init>")}})
        self.both(False, world, ("a", "A"), ("a", "P"), "<init>")
        self.both(False, world, ("a", "A"), ("base", "Object"), "<init>")

    def test_methods_of_object(self):
        world = World({"a": {"A": classed("A", flags=[], name="hashCode", descriptor="()I"),
                             "B": classed("B", flags=["public"], name="clone", descriptor="()LObject;")}})
        self.both(True, world, ("a", "A"), ("base", "Object"), "hashCode", "()I")
        self.both(True, world, ("a", "B"), ("base", "Object"), "clone", "()LObject;")

    def test_interfaces(self):
        for above, below in itertools.product([("public",), ("public", "abstract"), ("private",), ("public", "static")],
                                              [("public",), (), ("protected",), ("private",), ("static",), ("abstract",)]):
            world = World({"a": {"I": faced("I", [], *above), "J": face("J", ["I"]), "P": classed("P", "Object", ["J"]),
                                 "A": classed("A", "P", flags=below)}})
            right = not {"private", "static"} & {*above, *below}
            self.both(right, world, ("a", "A"), ("a", "I"))

    def test_interfaces_of_interfaces(self):
        world = World({"a": {"I": faced("I", [], "public"), "J": faced("J", ["I"], "public", "abstract"), "K": faced("K", [], "public")}})
        self.both(True, world, ("a", "J"), ("a", "I"))
        self.both(False, world, ("a", "I"), ("a", "J"))
        self.both(False, world, ("a", "J"), ("a", "K"))

    def test_a_class_that_does_not_name_the_interface(self):
        world = World({"a": {"I": faced("I", [], "public"), "P": classed("P", flags=["public"]), "A": classed("A", "P", ["I"])}})
        self.both(False, world, ("a", "P"), ("a", "I"))

    def test_no_members(self):
        world = World({"a": {"A": classed("A", flags=["public"]), "Bad": file("Bad", "Gone", methods=[method("public")])}})
        right = ("a", "A", "m", "()V")
        wrong = odd_things() + [None, 0, "m", (), ("a", "A"), ["a", "A", "m", "()V"], ("a", "A", "m"), ("a", "B", "m", "()V"),
                                ("b", "A", "m", "()V"), ("a", "A", "n", "()V"), ("a", "A", "m", "()I"), ("a", "Bad", "m", "()V"),
                                ("a", "A", None, "()V"), (1, "A", "m", "()V"), ("a", ["A"], "m", "()V"), ("a", "[LA;", "m", "()V")]
        for thing in wrong:
            self.raises(NoMember, {"member": thing}, overrides, world, thing, right)
            self.raises(NoMember, {"member": thing}, overrides, world, right, thing)
        self.raises(NoMember, {"member": 1}, overrides, world, 1, 2)
        self.assertIs(overrides(other=right, member=right, world=world), False)


class CallCase(ErrorCase):
    def calls(self, expected, world, row, actual=("a", "C"), user=("a", "U"), name="m"):
        if isinstance(expected, tuple) and len(expected) == 2:
            expected = (*expected, *row[2:])
        self.assertEqual(called(world, user, name, row, actual), expected, (row, actual))


VIRTUAL = ("invokevirtual", "A", *KEY)
BY_FACE = ("invokeinterface", "I", *KEY)


class Virtual(CallCase):
    def test_the_example(self):
        for middle, expected in (("p", "r/C"), ("q", "p/A")):
            between = middle + "/B"
            world = World({"a": {"p/U": file("p/U"), "p/A": classed("p/A", flags=[], name="go"),
                                 between: classed(between, "p/A", flags=["public"], name="go"),
                                 "r/C": classed("r/C", between, flags=["public"], name="go")}})
            self.calls(("a", expected), world, ("invokevirtual", "p/A", "go", "()V"), ("a", "r/C"), ("a", "p/U"))

    def line(self, *flags, faces=(), **more):
        """C, below B, below A, each with a method of these flags, or none."""
        names = ["A", "B", "C"]
        told = {"U": file("U"), **more}
        for k, words in enumerate(flags):
            told[names[k]] = classed(names[k], names[k - 1] if k else "Object", faces if k == len(flags) - 1 else (), words, True)
        return World({"a": told})

    def test_the_first_one_along_the_line(self):
        public = ("public",)
        for flags, expected in (((public, public, public), "C"), ((public, public, None), "B"), ((public, None, None), "A"),
                                ((public, None, public), "C"), ((public, ("private",), None), "A"),
                                ((public, ("static",), None), "A"), ((public, ("private",), public), "C"),
                                ((public, public, ("static",)), "B")):
            self.calls(("a", expected), self.line(*flags), VIRTUAL)

    def test_private_ones(self):
        world = World({"a": {"A": classed("A", flags=["private"]), "C": classed("C", "A", flags=["public"])}})
        self.calls(("a", "A"), world, VIRTUAL, user=("a", "A"))

    def test_abstract_ones(self):
        abstract = ("public", "abstract")
        for flags, expected in (((abstract, ("public",), None), ("a", "B")), ((abstract, None, None), ABSTRACT),
                                ((("public",), abstract, None), ABSTRACT), ((("public",), abstract, ("public",)), ("a", "C"))):
            self.calls(expected, self.line(*flags), VIRTUAL)
        # A method of a class goes ahead of those of interfaces, even if it is abstract.
        world = self.line(abstract, None, None, faces=["I"], I=faced("I", [], "public"))
        self.calls(ABSTRACT, world, VIRTUAL)

    def test_unmarked_ones(self):
        self.calls(("a", "C"), self.line(("public",), None, ()), VIRTUAL)
        self.calls(("a", "C"), self.line((), None, ("protected",)), VIRTUAL)

    def test_an_object_that_can_not_come_there(self):
        world = self.line(("public",), D=classed("D", flags=["public"]), E=classed("E", "Object", ["I"]), I=faced("I", [], "public"))
        self.calls(ABSTRACT, world, VIRTUAL, ("a", "D"))
        self.calls(("a", "I"), world, VIRTUAL, ("a", "E"))
        self.calls(ABSTRACT, world, VIRTUAL, ("base", "[I"))

    def test_arrays(self):
        world = World({"a": {"U": file("U"), "I": face("I")}})
        for name in ("[I", "[LU;", "[[LString;"):
            actual = ("a" if "U" in name else "base", name)
            self.calls(("base", "Object"), world, ("invokevirtual", name, "clone", "()LObject;"), actual)
            self.calls(("base", "Object"), world, ("invokevirtual", "Object", "hashCode", "()I"), actual)
            self.calls(CHANGE, world, ("invokeinterface", "I", "hashCode", "()I"), actual)
            self.calls(("base", "Object"), world, ("invokeinterface", "Cloneable", "hashCode", "()I"), actual)

    def test_a_method_of_an_interface_found_by_a_class(self):
        """The class referred to declares none, so an interface's is resolved."""
        world = World({"a": {"U": file("U"), "I": faced("I", [], "public"), "A": classed("A", "Object", ["I"]),
                             "C": classed("C", "A", flags=["public"]), "D": classed("D", "A", flags=["private"]),
                             "E": classed("E", "A", flags=["static"]), "F": classed("F", "A"),
                             "G": file("G", "A", ["J"]), "J": faced("J", ["I"], "public"), "H": classed("H", "A", flags=[])}})
        for name, expected in (("C", ("a", "C")), ("D", ("a", "I")), ("E", ("a", "I")), ("F", ("a", "I")), ("G", ("a", "J")),
                               ("A", ("a", "I")), ("H", ("a", "H"))):
            self.calls(expected, world, VIRTUAL, ("a", name))

    def test_errors_of_what_is_asked(self):
        world = self.line(("public",), I=face("I"))
        self.calls(MISSING, world, ("invokevirtual", "Gone", *KEY), ("a", "A"))
        self.calls(CHANGE, world, ("invokevirtual", "I", *KEY), ("a", "A"))
        self.calls("NoSuchMethodError", world, ("invokevirtual", "A", "n", "()V"), ("a", "A"))


class ByInterface(CallCase):
    def world(self, own=None, above=None, faces=("I",), first=("public", "abstract"), **more):
        """C names some interfaces, and P stands above it; I declares the method."""
        return World({"a": {"U": file("U"), "P": classed("P", flags=above, abstract=True), "I": faced("I", [], *first),
                            "C": classed("C", "P", faces, own, True), **more}})

    def test_classes(self):
        public = ("public",)
        for own, above, expected in ((public, None, "C"), (None, public, "P"), (public, public, "C"), (("private",), public, "P"),
                                     (("static",), public, "P")):
            for first in (("public", "abstract"), public):
                self.calls(("a", expected), self.world(own, above, first=first), BY_FACE)

    def test_a_class_that_is_not_below(self):
        for row in (BY_FACE, ("invokeinterface", "I", "hashCode", "()I")):
            self.calls(CHANGE, self.world(("public",), faces=()), row)
            self.calls(CHANGE, self.world(), row, ("a", "I"))
            self.calls(CHANGE, self.world(), row, ("base", "[I"))
            self.calls(CHANGE, self.world(), row, ("base", "String"))

    def test_defaults(self):
        self.calls(("a", "I"), self.world(first=("public",)), BY_FACE)
        self.calls(ABSTRACT, self.world(), BY_FACE)
        self.calls(("a", "I"), self.world(("private",), ("static",), first=("public",)), BY_FACE)

    def test_two_interfaces(self):
        public, abstract = ("public",), ("public", "abstract")
        for first, second, below, expected in (
                (public, public, False, CHANGE), (public, abstract, False, ("a", "I")), (abstract, public, False, ("a", "J")),
                (abstract, abstract, False, ABSTRACT), (public, public, True, ("a", "J")), (public, abstract, True, ABSTRACT),
                (abstract, public, True, ("a", "J"))):
            world = self.world(first=first, faces=("I", "J"), J=faced("J", ["I"] if below else [], *second))
            self.calls(expected, world, BY_FACE)

    def test_access(self):
        for own, expected in (((), ACCESS), (("protected",), ACCESS), (("public",), ("a", "C")), (("public", "abstract"), ABSTRACT),
                              (("abstract",), ACCESS)):
            self.calls(expected, self.world(own), BY_FACE)

    def test_private_ones(self):
        world = self.world(("public",), first=("private",))
        self.calls(("a", "I"), world, BY_FACE, user=("a", "I"))
        self.calls(CHANGE, world, BY_FACE, ("a", "I"), ("a", "I"))

    def test_methods_of_object(self):
        row = ("invokeinterface", "I", "hashCode", "()I")
        self.calls(("base", "Object"), self.world(), row)
        for flags, expected in ((["public"], ("a", "D")), ([], ACCESS), (["public", "abstract"], ABSTRACT)):
            world = self.world(D=classed("D", "C", flags=flags, abstract=True, name="hashCode", descriptor="()I"))
            self.calls(expected, world, row, ("a", "D"))


class Specially(CallCase):
    def world(self, **flags):
        """U below B, below A; each has a method with these flags, or none."""
        told = {"A": classed("A", flags=flags.get("A"), abstract=True), "B": classed("B", "A", flags=flags.get("B"), abstract=True),
                "U": classed("U", "B", ["I"], flags.get("U"), True), "I": faced("I", [], *flags.get("I", ())), "V": classed("V", "U"),
                "S": classed("S", flags=flags.get("S"))}
        return World({"a": told})

    def special(self, expected, named, actual=("a", "U"), word="invokespecial", user=("a", "U"), **flags):
        self.calls(expected, self.world(**flags), (word, named, *KEY), actual, user)

    def test_from_the_parent_on(self):
        public = ("public",)
        self.special(("a", "B"), "A", A=public, B=public, U=public)
        self.special(("a", "A"), "A", A=public, U=public)
        self.special(("a", "B"), "B", A=public, B=public, U=public)
        self.special(("a", "A"), "B", A=public, U=public)
        self.special(("a", "A"), "A", A=public, B=("static",))
        self.special(("a", "B"), "A", A=public, B=("private",))

    def test_from_the_class_itself_on(self):
        public = ("public",)
        self.special(("a", "U"), "U", A=public, U=public)
        self.special(("a", "A"), "U", A=public)
        self.special(("a", "U"), "U", U=("private",))
        self.special(("a", "S"), "S", S=public)

    def test_abstract_ones(self):
        abstract = ("public", "abstract")
        self.special(ABSTRACT, "A", A=abstract)
        self.special(ABSTRACT, "A", A=("public",), B=abstract)
        self.special(("a", "B"), "A", A=abstract, B=("public",))
        self.special(ABSTRACT, "U", U=abstract, I=("public",))

    def test_interfaces(self):
        public, abstract = ("public",), ("public", "abstract")
        more = {"word": "invokespecial_i"}
        self.special(("a", "I"), "I", I=public, A=public, U=public, **more)
        self.special(ABSTRACT, "I", I=abstract, A=public, U=public, **more)
        self.special(("a", "I"), "U", I=public)
        self.special(ABSTRACT, "U", I=abstract)

    def test_two_interfaces(self):
        for flags, expected in ((("public",), CHANGE), (("public", "abstract"), ("a", "I"))):
            world = World({"a": {"U": classed("U", "Object", ["I", "J"]), "I": faced("I", [], "public"), "J": faced("J", [], *flags)}})
            self.calls(expected, world, ("invokespecial", "U", *KEY), ("a", "U"))

    def test_an_interface_below_another_one(self):
        world = World({"a": {"U": classed("U", "Object", ["J"]), "I": faced("I", [], "public"), "J": face("J", ["I"])}})
        self.calls(("a", "I"), world, ("invokespecial_i", "J", *KEY), ("a", "U"))
        self.calls(("base", "Object"), world, ("invokespecial_i", "J", "hashCode", "()I"), ("a", "U"))

    def test_only_public_methods_of_object_at_an_interface(self):
        copy = {"name": "clone", "descriptor": "()LObject;"}
        world = World({"a": {"U": classed("U", "Object", ["J"]), "I": faced("I", [], "public", **copy), "J": face("J", ["I"])}})
        self.calls(("a", "I"), world, ("invokespecial_i", "J", "clone", "()LObject;"), ("a", "U"))
        self.calls(("base", "Object"), world, ("invokespecial", "Object", "clone", "()LObject;"), ("a", "U"))

    def test_users_that_are_interfaces(self):
        world = World({"a": {"I": faced("I", ["J"], "public"), "J": faced("J", [], "public"), "C": classed("C", "Object", ["I"]),
                             "D": classed("D", "Object", ["J"])}})
        for actual, expected in ((("a", "I"), ("a", "J")), (("a", "C"), ("a", "J")), (("a", "D"), ACCESS), (("a", "J"), ACCESS),
                                 (("base", "[I"), ACCESS), (("base", "Object"), ACCESS)):
            self.calls(expected, world, ("invokespecial_i", "J", *KEY), actual, ("a", "I"))
        self.calls(("base", "Object"), world, ("invokespecial", "Object", "hashCode", "()I"), ("a", "C"), ("a", "I"))

    def test_users_that_are_classes_do_not_look_at_the_object(self):
        for actual in (("a", "U"), ("a", "V"), ("a", "S"), ("base", "[I")):
            self.special(("a", "A"), "A", actual, A=("public",))

    def test_inits(self):
        world = World({"a": {"U": file("U", "P"), "P": classed("P", flags=["public"], name="<init>")}})
        row = ("invokespecial", "P", "<init>", "()V")
        for actual in (("a", "U"), ("a", "P"), ("base", "[I")):
            self.calls(("a", "P"), world, row, actual)
        self.calls("NoSuchMethodError", world, ("invokespecial", "U", "<init>", "()V"), ("a", "U"))

    def test_inits_of_a_class_further_up(self):
        told = {"flags": ["public"], "name": "<init>"}
        world = World({"a": {"U": file("U", "P"), "P": classed("P", "Q", **told), "Q": classed("Q", **told)}})
        self.calls(("a", "Q"), world, ("invokespecial", "Q", "<init>", "()V"), ("a", "Q"))

    def test_private_methods_of_interfaces(self):
        world = World({"a": {"I": faced("I", [], "private"), "C": classed("C", "Object", ["I"])}})
        self.calls(("a", "I"), world, ("invokespecial_i", "I", *KEY), ("a", "C"), ("a", "I"))

    def test_methods_that_are_not_public(self):
        for flags in ((), ("protected",)):
            self.special(("a", "A"), "A", A=flags)
            self.special(("a", "B"), "B", A=("public",), B=flags)


class Static(CallCase):
    def test_the_resolved_one(self):
        world = World({"a": {"U": file("U"), "A": classed("A", flags=["public", "static"]), "C": classed("C", "A", flags=["static"]),
                             "I": faced("I", [], "public", "static"), "D": classed("D", "A")}})
        for actual in (("a", "C"), None, 7, ("a", "Gone"), ["a", "A"]):
            self.calls(("a", "A"), world, ("invokestatic", "A", *KEY), actual)
            self.calls(("a", "A"), world, ("invokestatic", "D", *KEY), actual)
            self.calls(("a", "I"), world, ("invokestatic_i", "I", *KEY), actual)
            self.calls(CHANGE, world, ("invokestatic", "I", *KEY), actual)


class Arguments(CallCase):
    def setUp(self):
        self.world = World({"a": {"U": classed("U", flags=["public"]), "Bad": file("Bad", "Gone")}})

    def test_other_rows(self):
        for row in (("nop",), ("new", "U"), ("getfield", "U", "f", "I"), ("class", "Gone"), ("goto", 0)):
            for actual in (None, 7, ("a", "Gone"), ("a", "U")):
                self.assertIsNone(called(self.world, ("a", "U"), "m", row, actual))

    def test_wrong_ones(self):
        row = ("invokevirtual", "U", *KEY)
        self.raises(NotDefined, {"cls": ("a", "V")}, called, self.world, ("a", "V"), "m", None, None)
        self.raises(NotFound, {"name": "Bad", "word": MISSING}, called, self.world, ("a", "Bad"), "m", None, None)
        for wrong in odd_things() + [None, (), ("what",), ["nop"], ("invokevirtual", "U", "m", "I"), ("switch", ((2, 0), (1, 0)), 3)]:
            self.raises(NoRow, {"row": wrong}, called, self.world, ("a", "U"), "m", wrong, None)
        for actual in (None, 7, "U", ("a", "V"), ("a",), ["a", "U"], ("b", "U"), ("a", "[I"), ("c", "[J")):
            for word in ("invokevirtual", "invokespecial"):
                for told in (row, (word, "Gone", *KEY), (word, "U", "n", "()V")):
                    self.raises(NotDefined, {"cls": actual}, called, self.world, ("a", "U"), "m", told, actual)
        self.raises(NotDefined, {"cls": ("a", "V")}, called, self.world, ("a", "U"), "m", row, ("a", "[LV;"))
        self.raises(NotFound, {"name": "Bad", "word": MISSING}, called, self.world, ("a", "U"), "m", row, ("a", "Bad"))
        self.raises(NotFound, {"name": "Bad", "word": MISSING}, called, self.world, ("a", "U"), "m", row, ("a", "[[LBad;"))
        init = ("invokespecial", "Object", "<init>", "()V")
        self.raises(NotDefined, {"cls": 7}, called, self.world, ("a", "U"), "m", init, 7)

    def test_by_names(self):
        found = called(actual=("a", "U"), row=("invokevirtual", "U", *KEY), method="m", user=("a", "U"), world=self.world)
        self.assertEqual(found, ("a", "U", *KEY))


class AllLines(CallCase):
    """Selection along lines of three classes, compared with the words of [9.11]."""

    def test_them(self):
        sorts = [None, (), ("public",), ("private",), ("static",), ("public", "abstract")]
        for packages in itertools.product("pq", repeat=2):
            for flags in itertools.product([(), ("public",)], sorts, sorts):
                names = ["p/A", packages[0] + "/B", packages[1] + "/C"]
                world = World({"a": {"p/U": file("p/U"), **{
                    name: classed(name, names[k - 1] if k else "Object", flags=flags[k], abstract=True)
                    for k, name in enumerate(names)}}})
                found = ("a", "p/A", *KEY)
                expected = ABSTRACT
                for cls in line(world, ("a", names[2])):
                    own = [method for method in world.file_of(cls).methods if method[:2] == KEY]
                    if own and ((*cls, *KEY) == found or overrides(world, (*cls, *KEY), found)):
                        expected = ABSTRACT if "abstract" in own[0][2] else cls
                        break
                self.calls(expected, world, ("invokevirtual", "p/A", *KEY), ("a", names[2]), ("a", "p/U"))


if __name__ == "__main__":
    unittest.main()
