"""Demands between loaders, and quarrels: [11.1] to [11.8]."""

import itertools
import random
import unittest

from helpers import ErrorCase, code, face, file, no_strings, odd_things
from typegate.classes import Code, Uncut
from typegate.demands import all_demands, class_demands, names_of, use_demands
from typegate.errors import NoDescriptor, NoRow, NotDefined, NotFound
from typegate.loading import denoted, loading_error
from typegate.quarrels import can_quarrel, is_quarrel, quarrel
from typegate.worlds import World

MISSING = "NoClassDefFoundError"
ROOM = code(places=9)
PUBLIC = ("public",)


def method(name="m", descriptor="(LX;)V", flags=PUBLIC, body=None):
    return (name, descriptor, flags, None if "abstract" in flags or "native" in flags else body or ROOM)


def field(name="f", descriptor="LX;", flags=PUBLIC):
    return (name, descriptor, flags, None)


def using(*rows):
    return Code(9, 9, [*rows, ("return",)], [], [])


class Names(ErrorCase):
    def test_them(self):
        for descriptor, expected in (("I", []), ("[[J", []), ("LX;", ["X"]), ("[[Lp/X;", ["p/X"]), ("LObject;", []), ("[LString;", []),
                                     ("()V", []), ("(IJ)Z", []), ("(LX;LY;)V", ["X", "Y"]), ("(LY;[LX;LY;)LX;", ["Y", "X"]),
                                     ("(LX;I[[LX;LError;)LZ;", ["X", "Z"]), ("()[LX;", ["X"]), ("(LB;LA;)LC;", ["B", "A", "C"])):
            self.assertEqual(names_of(descriptor), expected)
            self.assertEqual(names_of(descriptor=descriptor), expected)

    def test_a_new_list(self):
        names_of("LX;").clear()
        self.assertEqual(names_of("LX;"), ["X"])

    def test_no_descriptors(self):
        for thing in no_strings() + ["", "V", "X", "LX", "(I", "()", "(V)V", "[[[[[[I", "LX;LY;", "[V", "()VV"]:
            self.raises(NoDescriptor, {}, names_of, thing)


class UseCase(ErrorCase):
    def setUp(self):
        members = dict(fields=[field(), field("s", flags=("public", "static"))],
                       methods=[method(), method("s", flags=("public", "static")), method("<init>", "(LX;)V"),
                                method("two", "(LX;LString;LY;)LX;"), method("none", "(I)V"), method("n", flags=("public", "native"))])
        faces = [method(), method("s", flags=("public", "static"))]
        self.world = World({
            "a": {"U": file("U", "P", ["I"]), "P": "b", "I": "b", "Q": "b", "Own": file("Own", **members), "Lost": file("Lost", "Gone")},
            "b": {"P": file("P", **members), "I": face("I", methods=faces), "Q": file("Q", "T"), "T": "c"},
            "c": {"T": file("T", **members)}})

    def demands(self, expected, *row, method="m", user=("a", "U")):
        self.assertEqual(use_demands(self.world, user, method, row), expected, row)


class Uses(UseCase):
    def test_each_word(self):
        for row in (("getfield", "P", "f", "LX;"), ("putfield", "P", "f", "LX;"), ("getstatic", "P", "s", "LX;"), ("putstatic", "P", "s", "LX;"),
                    ("invokevirtual", "P", "m", "(LX;)V"), ("invokespecial", "P", "m", "(LX;)V"), ("invokespecial", "P", "<init>", "(LX;)V"),
                    ("invokestatic", "P", "s", "(LX;)V"), ("invokeinterface", "I", "m", "(LX;)V"), ("invokestatic_i", "I", "s", "(LX;)V"),
                    ("invokespecial_i", "I", "m", "(LX;)V"), ("invokevirtual", "P", "n", "(LX;)V")):
            self.demands([("X", "a", "b")], *row)

    def test_each_name(self):
        self.demands([("X", "a", "b"), ("Y", "a", "b")], "invokevirtual", "P", "two", "(LX;LString;LY;)LX;")
        self.demands([], "invokevirtual", "P", "none", "(I)V")

    def test_where_it_is_declared(self):
        self.demands([("X", "a", "c")], "invokevirtual", "Q", "m", "(LX;)V")
        self.demands([("X", "a", "c")], "getfield", "Q", "f", "LX;")
        self.demands([], "invokevirtual", "Own", "m", "(LX;)V")
        self.demands([], "invokevirtual", "P", "m", "(LX;)V", user=("b", "P"))
        self.demands([("X", "b", "c")], "invokevirtual", "Q", "m", "(LX;)V", user=("b", "P"))

    def test_what_is_told_no_member(self):
        for row in (("invokevirtual", "P", "gone", "(LX;)V"), ("getfield", "P", "s", "LX;"), ("invokevirtual", "I", "m", "(LX;)V"),
                    ("new", "P"), ("checkcast", "P"), ("class", "[LP;"), ("nop",), ("getstatic", "Gone", "s", "LX;")):
            self.demands([], *row)

    def test_final_fields(self):
        world = World({"a": {"U": file("U", "P"), "P": "b"}, "b": {"P": file("P", fields=[field(flags=("public", "final"))])}})
        self.assertEqual(use_demands(world, ("a", "U"), "<init>", ("putfield", "P", "f", "LX;")), [])
        self.assertEqual(use_demands(world, ("a", "U"), "m", ("getfield", "P", "f", "LX;")), [("X", "a", "b")])

    def test_special_calls(self):
        """The resolved method is one of c, and the called one is one of b."""
        world = World({"a": {"U": file("U", "P"), "P": "b", "Q": "c"}, "b": {"P": file("P", "Q", methods=[method()]), "Q": "c"},
                       "c": {"Q": file("Q", methods=[method()])}})
        self.assertEqual(use_demands(world, ("a", "U"), "m", ("invokespecial", "Q", "m", "(LX;)V")), [("X", "a", "b"), ("X", "a", "c")])
        self.assertEqual(use_demands(world, ("a", "U"), "m", ("invokevirtual", "Q", "m", "(LX;)V")), [("X", "a", "c")])
        self.assertEqual(use_demands(world, ("a", "U"), "m", ("invokespecial", "P", "m", "(LX;)V")), [("X", "a", "b")])

    def test_special_calls_of_nothing(self):
        world = World({"a": {"U": file("U", "P"), "P": "b"},
                       "b": {"P": file("P", flags=["public", "abstract"], methods=[method(flags=("public", "abstract"))])}})
        self.assertEqual(use_demands(world, ("a", "U"), "m", ("invokespecial", "P", "m", "(LX;)V")), [("X", "a", "b")])

    def test_wrong_arguments(self):
        self.raises(NotDefined, {"cls": ("a", "P")}, use_demands, self.world, ("a", "P"), "m", None)
        self.raises(NotFound, {"name": "Lost", "word": MISSING}, use_demands, self.world, ("a", "Lost"), "m", None)
        for row in odd_things() + [None, (), ("what",)]:
            self.raises(NoRow, {"row": row}, use_demands, self.world, ("a", "U"), "m", row)

    def test_by_names(self):
        found = use_demands(row=("getfield", "P", "f", "LX;"), method="m", user=("a", "U"), world=self.world)
        self.assertEqual(found, [("X", "a", "b")])


class Classes(ErrorCase):
    def demands(self, expected, world, cls=("a", "A")):
        self.assertEqual(class_demands(world, cls), expected)

    def test_overriding(self):
        for above, below, right in ((PUBLIC, PUBLIC, True), (("protected",), PUBLIC, True), ((), PUBLIC, False), (("private",), PUBLIC, False),
                                    (PUBLIC, ("private",), False), (("static", "public"), PUBLIC, False), (PUBLIC, ("static",), False),
                                    (PUBLIC, (), True), (("public", "abstract"), PUBLIC, True)):
            world = World({"a": {"A": file("A", "P", methods=[method(flags=below)]), "P": "b"},
                           "b": {"P": file("P", methods=[method(flags=above)], flags=["public", "abstract"])}})
            self.demands([("X", "a", "b")] if right else [], world)
            self.demands([], world, ("b", "P"))

    def test_over_several_loaders(self):
        world = World({"a": {"A": file("A", "P", ["I"], methods=[method()]), "P": "b", "I": "d"},
                       "b": {"P": file("P", "Q", methods=[method()]), "Q": "c"}, "c": {"Q": file("Q", methods=[method()])},
                       "d": {"I": face("I", ["J"], methods=[method(flags=("public", "abstract"))]), "J": "e"}, "e": {"J": face("J", methods=[method()])}})
        self.demands([("X", "a", "b"), ("X", "a", "c"), ("X", "a", "d"), ("X", "a", "e")], world)
        self.demands([("X", "b", "c")], world, ("b", "P"))
        self.demands([("X", "d", "e")], world, ("d", "I"))

    def test_names(self):
        told = method(descriptor="(LY;LString;[LX;)LY;")
        world = World({"a": {"A": file("A", "P", methods=[told]), "P": "b"}, "b": {"P": file("P", methods=[told])}})
        self.demands([("X", "a", "b"), ("Y", "a", "b")], world)

    def test_inits_and_static_ones(self):
        told = [method("<init>"), method("s", flags=("public", "static")), method("p", flags=("private",))]
        world = World({"a": {"A": file("A", "P", methods=told), "P": "b"}, "b": {"P": file("P", methods=told)}})
        self.demands([], world)

    def test_the_third_kind(self):
        """C overrides nothing: the method of its parent, of b, stands for that of its interface, of a."""
        world = World({"a": {"C": file("C", "P", ["I"]), "P": "b", "I": face("I", methods=[method(flags=("public", "abstract"))])},
                       "b": {"P": file("P", methods=[method()])}})
        self.demands([("X", "a", "b")], world, ("a", "C"))
        self.demands([], world, ("b", "P"))

    def test_neither_loader_need_be_that_of_the_class(self):
        world = World({"a": {"C": file("C", "P", ["I"]), "P": "b", "I": "c"}, "b": {"P": file("P", methods=[method()])},
                       "c": {"I": face("I", methods=[method(flags=("public", "abstract"))])}})
        self.demands([("X", "b", "c")], world, ("a", "C"))

    def test_methods_that_stand_for_it(self):
        for flags, right in ((PUBLIC, True), ((), True), (("protected",), True), (("public", "abstract"), True), (("private",), False),
                             (("static",), False)):
            world = World({"a": {"C": file("C", "P", ["I"], flags=["public", "abstract"]), "P": "b",
                                 "I": face("I", methods=[method(flags=("public", "abstract"))])},
                           "b": {"P": file("P", methods=[method(flags=flags)], flags=["public", "abstract"])}})
            self.demands([("X", "a", "b")] if right else [], world, ("a", "C"))

    def test_methods_of_interfaces_that_are_no_demand(self):
        for flags in (("private",), ("public", "static")):
            world = World({"a": {"C": file("C", "P", ["I"]), "P": "b", "I": face("I", methods=[method(flags=flags)])},
                           "b": {"P": file("P", methods=[method()])}})
            self.demands([], world, ("a", "C"))

    def test_defaults(self):
        """J's abstract method, of a, is I's default, of b: the nearest ones stand beside each other."""
        def world(first, second, below=False):
            return World({"a": {"C": file("C", "Object", ["I", "J"], flags=["public", "abstract"]), "I": "b",
                                "J": face("J", ["I"] if below else [], methods=[method(flags=second)])},
                          "b": {"I": face("I", methods=[method(flags=first)])}})
        abstract = ("public", "abstract")
        for first, second, below, right in ((PUBLIC, abstract, False, True), (abstract, PUBLIC, False, True), (PUBLIC, PUBLIC, False, False),
                                            (abstract, abstract, False, False), (PUBLIC, PUBLIC, True, True), (PUBLIC, abstract, True, False)):
            self.demands([("X", "a", "b")] if right else [], world(first, second, below), ("a", "C"))

    def test_interfaces_have_no_third_kind(self):
        world = World({"a": {"K": face("K", ["I", "J"]), "I": "b", "J": face("J", methods=[method(flags=("public", "abstract"))])},
                       "b": {"I": face("I", methods=[method()])}})
        self.demands([], world, ("a", "K"))

    def test_of_interfaces_above(self):
        world = World({"a": {"C": file("C", "P"), "P": file("P", "Q", ["J"]), "Q": "b", "J": face("J", ["I"]), "I": "c"},
                       "b": {"Q": file("Q", methods=[method()])}, "c": {"I": face("I", methods=[method(flags=("public", "abstract"))])}})
        self.demands([("X", "b", "c")], world, ("a", "C"))
        self.demands([("X", "b", "c")], world, ("a", "P"))

    def test_wrong_arguments(self):
        world = World({"a": {"Lost": file("Lost", "Gone")}})
        for cls in (("a", "A"), None, "A", ("a", "[I"), ["base", "Object"]):
            self.raises(NotDefined, {"cls": cls}, class_demands, world, cls)
        self.raises(NotFound, {"name": "Lost", "word": MISSING}, class_demands, world, ("a", "Lost"))
        self.assertEqual(class_demands(cls=("base", "Object"), world=world), [])


class All(ErrorCase):
    def test_of_codes_and_classes(self):
        body = using(("aconst_null",), ("aconst_null",), ("invokevirtual", "P", "m", "(LX;)V"), ("getstatic", "P", "s", "LZ;"), ("pop",))
        above = file("P", fields=[field("s", "LZ;", ("public", "static"))], methods=[method(), method("n", "(LY;)V")])
        world = World({"a": {"A": file("A", "P", methods=[method("n", "(LY;)V"), method("go", "()V", body=body)]), "P": "b"}, "b": {"P": above}})
        self.assertEqual(all_demands(world), [("X", "a", "b"), ("Y", "a", "b"), ("Z", "a", "b")])
        all_demands(world).clear()
        self.assertEqual(len(all_demands(world=world)), 3)

    def test_each_once(self):
        row = ("invokestatic", "P", "m", "(LX;)V")
        rows = using(("aconst_null",), row, ("aconst_null",), row)
        world = World({"a": {"A": file("A", methods=[method("go", "()V", body=rows), method("too", "()V", body=rows)]), "P": "b"},
                       "b": {"P": file("P", methods=[method(flags=("public", "static"))])}})
        self.assertEqual(all_demands(world), [("X", "a", "b")])

    def test_classes_that_do_not_load_well_demand_nothing(self):
        rows = using(("aconst_null",), ("invokestatic", "P", "m", "(LX;)V"))
        world = World({"a": {"A": file("A", "Gone", methods=[method("go", "()V", body=rows)]), "P": "b"},
                       "b": {"P": file("P", methods=[method(flags=("public", "static"))])}})
        self.assertEqual(all_demands(world), [])

    def test_codes_that_are_never_judged_right_count(self):
        rows = using(("invokestatic", "P", "m", "(LX;)V"))
        world = World({"a": {"A": file("A", methods=[method("go", "()V", body=rows), method("u", "()V", body=Uncut("map", 0))]), "P": "b"},
                       "b": {"P": file("P", methods=[method(flags=("public", "static"))])}})
        self.assertEqual(all_demands(world), [("X", "a", "b")])

    def test_none(self):
        self.assertEqual(all_demands(World({})), [])

    def test_the_method_counts(self):
        put = [("aconst_null",), ("putstatic", "T", "s", "LX;")]
        world = World({"a": {"A": file("A", methods=[method("go", "()V", body=using(*put))]), "T": "b"},
                       "b": {"T": file("T", fields=[field("s", flags=("public", "static", "final"))])}})
        self.assertEqual(all_demands(world), [])


class Quarrels(ErrorCase):
    def chain(self, links, answers, name="X"):
        """Loaders, each of which calls a method of the next ones; and what the name is for each of them."""
        loaders = {}
        for loader in sorted({loader for link in links for loader in link} | set(answers)):
            told = {}
            rows = []
            for one, other in links:
                if one == loader:
                    told["T" + other] = other
                    rows += [("aconst_null",), ("invokestatic", "T" + other, "m", "(L" + name + ";)V")]
            told["U"] = file("U", methods=[method("go", "()V", body=using(*rows))])
            told["T" + loader] = file("T" + loader, methods=[method("m", "(L" + name + ";)V", ("public", "static"))])
            if loader in answers:
                told[name] = answers[loader]
            loaders[loader] = told
        return World(loaders)

    def same(self, expected, world):
        self.assertEqual(quarrel(world), expected)
        self.assertIs(can_quarrel(world), expected is not None)
        if expected is not None:
            self.assertIs(is_quarrel(world, expected), True)
            self.assertIs(is_quarrel(world, (expected[0], expected[1][::-1])), True)

    def test_two(self):
        self.same(("X", ("a", "b")), self.chain(["ab"], {"a": file("X"), "b": file("X")}))
        self.same(("X", ("a", "b")), self.chain(["ba"], {"a": file("X"), "b": file("X")}))
        self.same(None, self.chain(["ab"], {"a": file("X"), "b": "a"}))
        self.same(None, self.chain(["ab"], {"a": file("X")}))
        self.same(None, self.chain(["ab"], {"a": file("X"), "b": file("X", "Gone")}))
        self.same(None, self.chain([], {"a": file("X"), "b": file("X")}))

    def test_three(self):
        self.same(("X", ("a", "b", "c")), self.chain(["ab", "bc"], {"a": file("X"), "c": file("X")}))
        self.same(("X", ("a", "c", "b")), self.chain(["ac", "bc"], {"a": file("X"), "b": file("X")}))
        self.same(("X", ("a", "b", "c")), self.chain(["ab", "bc"], {"a": file("X"), "b": file("X", "Gone"), "c": file("X")}))
        self.same(("X", ("b", "c")), self.chain(["ab", "bc"], {"a": file("X"), "b": "a", "c": file("X")}))

    def test_a_loader_that_defines_nothing_hides_it(self):
        """The parent tells X in a descriptor and has none; two children define their own, and override the method."""
        above = file("P", methods=[method()])
        below = file("D", "P", methods=[method()])
        world = World({"p": {"P": above}, "x": {"P": "p", "D": below, "X": file("X")}, "y": {"P": "p", "D": below, "X": file("X")}})
        self.assertEqual(all_demands(world), [("X", "p", "x"), ("X", "p", "y")])
        self.same(("X", ("x", "p", "y")), world)

    def test_the_fewest_loaders(self):
        own = {loader: file("X") for loader in "ae"}
        self.same(("X", ("a", "d", "e")), self.chain(["ab", "bc", "ce", "ad", "de"], own))
        self.same(("X", ("a", "e")), self.chain(["ab", "bc", "ce", "ad", "de", "ea"], own))
        self.same(("X", ("a", "b", "c", "e")), self.chain(["ab", "bc", "ce"], own))

    def test_the_least_of_several(self):
        own = {loader: file("X") for loader in "az"}
        self.same(("X", ("a", "c", "z")), self.chain(["ac", "cz", "ad", "dz"], own))
        self.same(("X", ("a", "z")), self.chain(["az", "yz"], {**own, "y": file("X")}))

    def test_two_names(self):
        static = ("public", "static")
        body = using(("aconst_null",), ("invokestatic", "T", "m", "(LY;)V"), ("aconst_null",), ("invokestatic", "T", "n", "(LX;)V"))
        for own in (["X", "Y"], ["Y"], ["X"]):
            classes = {name: file(name) for name in own}
            world = World({"a": {"U": file("U", methods=[method("go", "()V", body=body)]), "T": "b", **classes},
                           "b": {"T": file("T", methods=[method("m", "(LY;)V", static), method("n", "(LX;)V", static)]), **classes}})
            self.same((own[0], ("a", "b")), world)

    def test_a_shorter_one_of_a_greater_name_goes_ahead(self):
        static = ("public", "static")
        rows = [("aconst_null",), ("invokestatic", "T", "m", "(LA;)V"), ("aconst_null",), ("invokestatic", "S", "n", "(LZ;)V")]
        world = World({
            "a": {"U": file("U", methods=[method("go", "()V", body=using(*rows))]), "T": "b", "S": "c", "A": file("A"), "Z": file("Z")},
            "b": {"T": file("T", methods=[method("m", "(LA;)V", static)]),
                  "V": file("V", methods=[method("go", "()V", body=using(("aconst_null",), ("invokestatic", "R", "m", "(LA;)V")))]), "R": "c"},
            "c": {"S": file("S", methods=[method("n", "(LZ;)V", static)]), "R": file("R", methods=[method("m", "(LA;)V", static)]), "A": file("A"),
                  "Z": file("Z")}})
        self.assertEqual(all_demands(world), [("A", "a", "b"), ("A", "b", "c"), ("Z", "a", "c")])
        self.same(("Z", ("a", "c")), world)
        self.assertIs(is_quarrel(world, ("A", ("a", "b", "c"))), True)

    def test_things_that_are_none(self):
        world = self.chain(["ab", "bc", "ca"], {"a": file("X"), "b": file("X"), "c": "a"})
        self.assertIs(is_quarrel(world, ("X", ("a", "b"))), True)
        self.assertIs(is_quarrel(world, ("X", ("a", "c", "b"))), True)
        wrong = odd_things() + [None, 0, "X", (), ("X",), ("X", ()), ("X", ("a",)), ("X", ("a", "a")), ("X", ("a", "b", "a")), ("X", ("a", "c")),
                                ("X", ["a", "b"]), ["X", ("a", "b")], ("Y", ("a", "b")), ("X", ("a", "d")), ("X", ("d", "e")), ("X", ("a", None)),
                                ("X", (1, 2)), (None, ("a", "b")), (["X"], ("a", "b")), ("X", ("a", "b"), 1), ("X", ("a", ["b"])), ("X", "ab"),
                                ("X", ("a", "b", "c")), ("[LX;", ("a", "b")), ("LX;", ("a", "b"))]
        for thing in wrong:
            self.assertIs(is_quarrel(world, thing), False, thing)

    def test_longer_ones_are_quarrels_too(self):
        world = self.chain(["ab", "bc", "cd", "ad"], {"a": file("X"), "b": file("X"), "d": file("X")})
        self.same(("X", ("a", "b")), world)
        for told in (("a", "b", "c", "d"), ("b", "c", "d"), ("d", "a"), ("b", "a", "d")):
            self.assertIs(is_quarrel(world, ("X", told)), True, told)
        self.assertIs(is_quarrel(world, ("X", ("a", "c"))), False)

    def test_no_loader_stands_twice(self):
        world = self.chain(["ab", "ac"], {"a": file("X"), "b": file("X"), "c": file("X")})
        self.assertIs(is_quarrel(world, ("X", ("b", "a", "c"))), True)
        for told in (("b", "a", "b", "a", "c"), ("a", "b", "a", "c"), ("b", "a", "c", "a")):
            self.assertIs(is_quarrel(world, ("X", told)), False, told)

    def test_by_names(self):
        world = self.chain(["ab"], {"a": file("X"), "b": file("X")})
        self.assertEqual((quarrel(world=world), can_quarrel(world=world), is_quarrel(thing=("X", ("a", "b")), world=world)),
                         (("X", ("a", "b")), True, True))

    def test_by_chance(self):
        """Compared with all tuples of loaders."""
        source = random.Random(4)
        many = 0
        for _ in range(150):
            letters = "abcde"[:source.choice([2, 3, 4, 5])]
            links = [pair for pair in itertools.permutations(letters, 2) if source.random() < 0.3]
            answers = {letter: source.choice([file("X"), file("X"), "base", file("X", "Gone")]) for letter in letters if source.random() < 0.7}
            world = self.chain(links, answers)
            demands = all_demands(world)
            letters = [letter for letter in letters if world.has_loader(letter)]
            found = []
            for size in range(2, len(letters) + 1):
                for loaders in itertools.permutations(letters, size):
                    pairs = [("X", *sorted(pair)) in demands for pair in zip(loaders, loaders[1:])]
                    ends = [denoted(world, loader, "X") for loader in (loaders[0], loaders[-1])]
                    right = (all(pairs) and None not in ends and ends[0] != ends[1]
                             and all(loading_error(world, end) is None for end in ends))
                    self.assertIs(is_quarrel(world, ("X", loaders)), right)
                    if right:
                        found.append((size, ("X", loaders)))
            self.same(min(found)[1] if found else None, world)
            many += len(found) > 0
        self.assertGreater(many, 30)

    def test_a_long_way_past_many_loaders(self):
        letters = [first + second for first in "abcdef" for second in "abcdef"]
        links = list(zip(letters, letters[1:]))
        world = self.chain(links, {"aa": file("X"), "ff": file("X")})
        self.same(("X", tuple(letters)), world)


class Facts(ErrorCase):
    def test_within_a_shortest_quarrel_the_name_denotes_nothing_or_a_class_with_an_error(self):
        case = Quarrels()
        source = random.Random(9)
        for _ in range(80):
            links = [pair for pair in itertools.permutations("abcd", 2) if source.random() < 0.25]
            answers = {letter: source.choice([file("X"), file("X", "Gone")]) for letter in "abcd" if source.random() < 0.6}
            world = case.chain(links, answers)
            found = quarrel(world)
            for loader in found[1][1:-1] if found else ():
                cls = denoted(world, loader, "X")
                self.assertTrue(cls is None or loading_error(world, cls) is not None)


if __name__ == "__main__":
    unittest.main()
