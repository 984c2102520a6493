"""What names of types, fields and methods come to for a user: [9.5] to [9.9], [9.14]."""

import itertools
import unittest

from helpers import ErrorCase, code, face, file, no_strings, odd_things
from typegate.errors import NoReference, NoRow, NotDefined, NotFound, NoType
from typegate.resolving import asked, resolved_field, resolved_method, resolved_type
from typegate.worlds import World

MISSING = "NoClassDefFoundError"
CHANGE = "IncompatibleClassChangeError"
ACCESS = "IllegalAccessError"
FIELD = "NoSuchFieldError"
METHOD = "NoSuchMethodError"
ROOM = code(places=9)


def method(name="m", *flags, descriptor="()V"):
    return (name, descriptor, flags, None if "abstract" in flags or "native" in flags else ROOM)


def field(name="f", *flags, descriptor="I"):
    return (name, descriptor, flags, None)


def constant(name="f", descriptor="I"):
    return field(name, "public", "static", "final", descriptor=descriptor)


class Types(ErrorCase):
    def setUp(self):
        self.world = World({
            "a": {"U": file("U"), "Open": file("Open"), "Own": file("Own", flags=()), "p/Far": file("p/Far", flags=()),
                  "p/Open": file("p/Open"), "Bad": file("Bad", flags=["static"]), "Child": file("Child", "Bad"),
                  "Late": file("Late", "Gone"), "B": "b", "Hid": "b", "BadB": "b", "Empty": "b", "I": face("I", flags=(
                      "abstract", "interface"))},
            "b": {"B": file("B"), "Hid": file("Hid", flags=()), "BadB": file("BadB", "BadB")}})

    def told(self, expected, name, user=("a", "U")):
        self.assertEqual(resolved_type(self.world, user, name), expected)

    def test_classes(self):
        self.told(("a", "Open"), "Open")
        self.told(("a", "U"), "U")
        self.told(("b", "B"), "B")
        self.told(("base", "String"), "String")
        self.told(("a", "I"), "I")
        self.told(("a", "p/Open"), "p/Open")

    def test_nothing(self):
        for name in ("Gone", "Empty", "u", "p/U"):
            self.told(MISSING, name)
            self.told(MISSING, "[[L" + name + ";")

    def test_errors_of_classes(self):
        for name, word in (("Bad", "ClassFormatError"), ("Child", "ClassFormatError"), ("Late", MISSING),
                           ("BadB", "ClassCircularityError")):
            self.told(word, name)
            self.told(word, "[L" + name + ";")

    def test_access(self):
        self.told(("a", "Own"), "Own")
        self.told(ACCESS, "p/Far")
        self.told(ACCESS, "Hid")
        self.told(("a", "p/Far"), "p/Far", ("a", "p/Open"))
        self.told(ACCESS, "Own", ("a", "p/Open"))

    def test_an_error_goes_ahead_of_access(self):
        world = World({"a": {"U": file("U"), "p/Bad": file("p/Bad", "Gone", flags=())}})
        self.assertEqual(resolved_type(world, ("a", "U"), "p/Bad"), MISSING)

    def test_arrays(self):
        for letter in "ZBSCIJ":
            self.told(("base", "[" + letter), "[" + letter)
            self.told(("base", "[[[[[" + letter), "[[[[[" + letter)
        self.told(("a", "[LOpen;"), "[LOpen;")
        self.told(("b", "[[LB;"), "[[LB;")
        self.told(("base", "[LObject;"), "[LObject;")
        self.told(ACCESS, "[LHid;")
        self.told(ACCESS, "[[Lp/Far;")

    def test_wrong_arguments(self):
        for user in (("a", "Gone"), ("c", "U"), ("b", "U"), "U", None, ("a", "[I"), ("base", "[I"), ["a", "U"]):
            self.raises(NotDefined, {"cls": user}, resolved_type, self.world, user, "?")
        self.raises(NotFound, {"name": "Child", "word": "ClassFormatError"},
                    resolved_type, self.world, ("a", "Child"), "?")
        for name in no_strings() + ["", "I;", "LU;", "[", "[U", "[[[[[[I", "U;", "p.U", "[V", "(I)V"]:
            self.raises(NoType, {"name": name}, resolved_type, self.world, ("a", "U"), name)


class MemberCase(ErrorCase):
    def field(self, world, expected, cls="A", name="f", descriptor="I", user=("a", "U")):
        self.assertEqual(resolved_field(world, user, (cls, name, descriptor)), expected)

    def method(self, world, expected, cls="A", name="m", descriptor="()V", user=("a", "U")):
        self.assertEqual(resolved_method(world, user, (cls, name, descriptor)), expected)


class Fields(MemberCase):
    def test_in_the_class_itself(self):
        world = World({"a": {"U": file("U"), "A": file("A", "P", ["I"], fields=[field("g"), field()]),
                             "P": file("P", fields=[field()]), "I": face("I")}})
        self.field(world, ("a", "A", "f", "I"))
        self.field(world, FIELD, descriptor="J")
        self.field(world, FIELD, name="h")

    def order(self, told):
        """A's places for the field, in their order: A names I, which names K, and J; its parent P names L."""
        made = {name: [constant()] if name in told else [] for name in "AIKJPLO"}
        return World({"a": {
            "U": file("U"), "A": file("A", "P", ["I", "J"], fields=made["A"]), "P": file("P", "O", ["L"], fields=made["P"]),
            "O": file("O", fields=made["O"]), "I": self.face("I", ["K"], made["I"]), "K": self.face("K", [], made["K"]),
            "J": self.face("J", [], made["J"]), "L": self.face("L", [], made["L"])}})

    def face(self, name, interfaces, fields):
        return file(name, interfaces=interfaces, flags=("public", "abstract", "interface"), fields=fields)

    def test_the_order(self):
        places = "AIKJPLO"
        for many in (1, 2, 7):
            for told in itertools.combinations(places, many):
                self.field(self.order(told), ("a", told[0], "f", "I"))
        self.field(self.order(""), FIELD)

    def test_the_first_one_counts_whatever_its_flags(self):
        world = World({"a": {"U": file("U"), "A": file("A", "P", fields=[field("f", "private")]),
                             "P": file("P", fields=[field("f", "public")])}})
        self.field(world, ACCESS)
        self.field(world, ("a", "P", "f", "I"), "P")

    def test_of_interfaces(self):
        world = self.order("KL")
        self.field(world, ("a", "K", "f", "I"), "I")
        self.field(world, ("a", "K", "f", "I"), "K")
        self.field(world, FIELD, "J")

    def test_arrays(self):
        world = World({"a": {"U": file("U", fields=[field("f", "public")])}})
        for name in ("[I", "[LU;", "[[LObject;"):
            self.field(world, FIELD, name)
        self.field(world, MISSING, "[LGone;")

    def test_the_type_goes_ahead(self):
        world = World({"a": {"U": file("U"), "p/A": file("p/A", flags=()), "Bad": file("Bad", flags=["static"])}})
        self.field(world, MISSING, "Gone", "nothing")
        self.field(world, ACCESS, "p/A", "nothing")
        self.field(world, "ClassFormatError", "Bad", "nothing")

    def test_many_interfaces_above_each_other(self):
        loaders = {"U": file("U"), "A0": face("A0"), "B0": face("B0")}
        for k in range(1, 19):
            for name in "AB":
                loaders[name + str(k)] = face(name + str(k), ["A" + str(k - 1), "B" + str(k - 1)])
        loaders["C"] = file("C", interfaces=["A18", "B18"])
        self.field(World({"a": loaders}), FIELD, "C")
        self.method(World({"a": loaders}), METHOD, "C")


class Access(MemberCase):
    """The field f and the method m of P, referred to by several types, by users in several places."""

    def world(self, flags, static=()):
        words = (*flags, *static)
        above = dict(fields=[field("f", *words)], methods=[method("m", *words)])
        return World({
            "a": {"p/P": file("p/P", **above), "p/N": file("p/N"), "U": file("U", "p/P"), "S": file("S", "U"),
                  "T": file("T", "p/P"), "V": file("V"), "I": face("I")},
            "b": {"p/P": "a", "p/N": file("p/N"), "p/S": file("p/S", "p/P")}})

    def both(self, expected, world, cls, user):
        for find, name, descriptor in ((resolved_field, "f", "I"), (resolved_method, "m", "()V")):
            told = ("a", "p/P", name, descriptor) if expected else ACCESS
            self.assertEqual(find(world, user, (cls, name, descriptor)), told, (cls, user))

    def test_public(self):
        for static in ((), ("static",)):
            for user in (("a", "V"), ("b", "p/N"), ("a", "p/P"), ("a", "U")):
                self.both(True, self.world(["public"], static), "p/P", user)

    def test_private(self):
        for static in ((), ("static",)):
            world = self.world(["private"], static)
            self.both(True, world, "p/P", ("a", "p/P"))
            self.both(True, world, "U", ("a", "p/P"))
            for user in (("a", "p/N"), ("a", "U"), ("b", "p/N"), ("a", "V")):
                self.both(False, world, "p/P", user)

    def test_unmarked(self):
        for static in ((), ("static",)):
            world = self.world([], static)
            self.both(True, world, "p/P", ("a", "p/N"))
            self.both(True, world, "U", ("a", "p/N"))
            for user in (("a", "U"), ("b", "p/N"), ("b", "p/S"), ("a", "V")):
                self.both(False, world, "p/P", user)

    def test_protected(self):
        world = self.world(["protected"])
        for user in (("a", "p/N"), ("a", "p/P")):
            for cls in ("p/P", "U", "T"):
                self.both(True, world, cls, user)
        # U itself, what stands above it, and what stands below it; T stands beside it.
        for cls, expected in (("U", True), ("p/P", True), ("S", True), ("T", False)):
            self.both(expected, world, cls, ("a", "U"))
        self.both(False, world, "p/P", ("a", "V"))
        self.both(False, world, "p/P", ("b", "p/N"))
        self.both(True, world, "p/P", ("b", "p/S"))

    def test_protected_and_static(self):
        world = self.world(["protected"], ["static"])
        for cls in ("U", "p/P", "S", "T"):
            self.both(True, world, cls, ("a", "U"))
        self.both(False, world, "p/P", ("a", "V"))

    def test_copies_of_arrays(self):
        world = World({"a": {"U": file("U"), "V": file("V")}})
        for name in ("[I", "[LU;", "[[LString;", "[LV;"):
            self.method(world, ("base", "Object", "clone", "()LObject;"), name, "clone", "()LObject;")
            self.method(world, ("base", "Object", "hashCode", "()I"), name, "hashCode", "()I")
            self.method(world, METHOD, name, "clone", "()V")
        self.method(world, ("base", "Object", "clone", "()LObject;"), "U", "clone", "()LObject;")
        self.method(world, ("base", "Object", "clone", "()LObject;"), "Object", "clone", "()LObject;")
        self.method(world, ACCESS, "V", "clone", "()LObject;")
        self.method(world, ACCESS, "String", "clone", "()LObject;")


class Methods(MemberCase):
    def test_along_the_line(self):
        world = World({"a": {
            "U": file("U"), "A": file("A", "P", ["I"]), "P": file("P", "O", methods=[method("n", "private")]),
            "O": file("O", methods=[method("m", "public", "abstract"), method("n", "public"), method("s", "static")],
                      flags=["public", "abstract"]),
            "I": face("I", methods=[method("m", "public"), method("k", "public")])}})
        self.method(world, ("a", "O", "m", "()V"))
        self.method(world, ACCESS, name="n")
        self.method(world, ("a", "O", "n", "()V"), "O", "n")
        self.method(world, ("a", "O", "s", "()V"), "A", "s")
        self.method(world, ("a", "I", "k", "()V"), "A", "k")
        self.method(world, METHOD, "P", "k")
        self.method(world, METHOD, "A", "m", "()I")
        self.method(world, ("base", "Object", "<init>", "()V"), "O", "<init>")

    def test_of_arrays(self):
        world = World({"a": {"U": file("U")}})
        self.method(world, MISSING, "[LGone;", "nothing")
        self.method(world, METHOD, "[LU;", "nothing")

    def test_at_an_interface(self):
        world = World({"a": {"U": file("U"), "J": face("J", methods=[
            method("m", "public"), method("hashCode", "public", "abstract", descriptor="()I"),
            method("k", "private"), method("s", "public", "static")]),
            "I": face("I", ["J"], [method("n", "private"), method("o", "public", "static")])}})
        self.method(world, ("a", "J", "m", "()V"), "I")
        self.method(world, ACCESS, "I", "n")
        self.method(world, ("a", "I", "o", "()V"), "I", "o")
        self.method(world, ("base", "Object", "hashCode", "()I"), "I", "hashCode", "()I")
        self.method(world, ("a", "J", "hashCode", "()I"), "J", "hashCode", "()I")
        self.method(world, ("base", "Object", "<init>", "()V"), "I", "<init>")
        self.method(world, METHOD, "I", "clone", "()LObject;")
        # Private and static methods of interfaces are no candidates.
        self.method(world, METHOD, "I", "k")
        self.method(world, METHOD, "I", "s")
        self.method(world, ("a", "J", "s", "()V"), "J", "s")

    def test_clone_may_be_one_of_an_interface(self):
        world = World({"a": {"U": file("U"), "J": face("J", methods=[method("clone", "public", descriptor="()LObject;")]),
                             "I": face("I", ["J"])}})
        self.method(world, ("a", "J", "clone", "()LObject;"), "I", "clone", "()LObject;")

    def candidates(self, first, second, below=False):
        """A names I and J, each with its own m; J may stand below I."""
        return World({"a": {"U": file("U"), "A": file("A", interfaces=["I", "J"]),
                            "I": face("I", methods=[method("m", "public", *first)]),
                            "J": face("J", ["I"] if below else [], [method("m", "public", *second)])}})

    def test_candidates(self):
        abstract = ("abstract",)
        for first, second, expected in (((), (), "I"), (abstract, (), "J"), ((), abstract, "I"), (abstract, abstract, "I")):
            self.method(self.candidates(first, second), ("a", expected, "m", "()V"))
        for first, second in itertools.product(((), abstract), repeat=2):
            self.method(self.candidates(first, second, True), ("a", "J", "m", "()V"))

    def test_three_candidates(self):
        for flags in itertools.product(((), ("abstract",)), repeat=3):
            world = World({"a": {"U": file("U"), "A": file("A", "P", ["I", "J"]), "P": file("P", interfaces=["K"]), **{
                name: face(name, methods=[method("m", "public", *words)]) for name, words in zip("IJK", flags)}}})
            own = [name for name, words in zip("IJK", flags) if words == ()]
            self.method(world, ("a", own[0] if len(own) == 1 else "I", "m", "()V"))
            self.method(world, ("a", "K", "m", "()V"), "P")

    def test_the_type_goes_ahead(self):
        world = World({"a": {"U": file("U"), "p/A": file("p/A", flags=())}})
        self.method(world, MISSING, "Gone", "nothing")
        self.method(world, ACCESS, "p/A", "nothing")


class References(ErrorCase):
    def test_wrong_ones(self):
        world = World({"a": {"U": file("U"), "Bad": file("Bad", "Gone")}})
        wrong = no_strings() + ["U", ("U", "f"), ("U", "f", "I", "I"), ["U", "f", "I"], ("", "f", "I"), ("LU;", "f", "I"),
                                ("I;", "f", "I"), ("U", "f", None), ("U", 1, "I"), (b"U", "f", "I"), ("[", "f", "I")]
        for find in (resolved_field, resolved_method):
            for reference in wrong:
                self.raises(NoReference, {"reference": reference}, find, world, ("a", "U"), reference)
            self.raises(NotDefined, {"cls": ("a", "V")}, find, world, ("a", "V"), None)
            self.raises(NotFound, {"name": "Bad", "word": MISSING}, find, world, ("a", "Bad"), None)

    def test_any_strings_behind_the_type_name(self):
        world = World({"a": {"U": file("U")}})
        for name, descriptor in (("", ""), ("f", "()V"), ("m", "I"), ("a b", "?")):
            self.assertEqual(resolved_field(world, ("a", "U"), ("U", name, descriptor)), FIELD)
            self.assertEqual(resolved_method(world, ("a", "U"), ("U", name, descriptor)), METHOD)


class AskCase(ErrorCase):
    def setUp(self):
        fields = [field("f"), field("s", "static"), field("c", "final"), field("d", "static", "final")]
        methods = [method("m", "public"), method("s", "public", "static"), method("<init>"), method("<clinit>", "static")]
        faces = [method("m", "public"), method("s", "public", "static"), method("p", "private")]
        self.world = World({"a": {
            "U": file("U", "P", fields=fields, methods=methods), "P": file("P", fields=fields, methods=methods),
            "V": file("V", "P"), "I": face("I", methods=faces), "Abs": file("Abs", flags=["public", "abstract"]),
            "p/Far": file("p/Far", flags=(), fields=fields, methods=methods), "Bad": file("Bad", "Gone")}})

    def asks(self, expected, *row, method="m", user=("a", "U")):
        self.assertEqual(asked(self.world, user, method, row), expected, row)


class AskedFields(AskCase):
    def test_static_or_not(self):
        for word, right, wrong in (("getstatic", "s", "f"), ("putstatic", "s", "f"), ("getfield", "f", "s"),
                                   ("putfield", "f", "s")):
            self.asks(("a", "U", right, "I"), word, "U", right, "I")
            self.asks(("a", "P", right, "I"), word, "V", right, "I")
            self.asks(CHANGE, word, "U", wrong, "I")
            self.asks(FIELD, word, "U", "none", "I")
            self.asks(MISSING, word, "Gone", right, "I")
            self.asks(ACCESS, word, "p/Far", right, "I")
            self.asks(MISSING, word, "Bad", right, "I")

    def test_final_ones_are_got_everywhere(self):
        self.asks(("a", "P", "c", "I"), "getfield", "P", "c", "I")
        self.asks(("a", "P", "d", "I"), "getstatic", "P", "d", "I")

    def test_final_ones_are_put_in_one_method_alone(self):
        for word, name, only in (("putfield", "c", "<init>"), ("putstatic", "d", "<clinit>")):
            for place in ("<init>", "<clinit>", "m", "", None, 7):
                self.asks(("a", "U", name, "I") if place == only else ACCESS, word, "U", name, "I", method=place)
                self.asks(ACCESS, word, "P", name, "I", method=place)

    def test_static_goes_ahead_of_final(self):
        self.asks(CHANGE, "putfield", "U", "d", "I")
        self.asks(CHANGE, "putstatic", "U", "c", "I")


class AskedMethods(AskCase):
    def test_right_ones(self):
        for word, cls, name in (
                ("invokevirtual", "U", "m"), ("invokespecial", "U", "m"), ("invokestatic", "U", "s"),
                ("invokeinterface", "I", "m"), ("invokespecial_i", "I", "m"), ("invokestatic_i", "I", "s")):
            self.asks(("a", cls, name, "()V"), word, cls, name, "()V")

    def test_words_for_interfaces_and_classes(self):
        for word in ("invokevirtual", "invokespecial", "invokestatic"):
            self.asks(CHANGE, word, "I", "nothing", "()V")
        for word in ("invokeinterface", "invokespecial_i", "invokestatic_i"):
            self.asks(CHANGE, word, "U", "nothing", "()V")
            self.asks(CHANGE, word, "Object", "hashCode", "()I")

    def test_static_or_not(self):
        for word, cls, name in (
                ("invokevirtual", "U", "s"), ("invokespecial", "U", "s"), ("invokestatic", "U", "m"),
                ("invokeinterface", "I", "s"), ("invokespecial_i", "I", "s"), ("invokestatic_i", "I", "m")):
            self.asks(CHANGE, word, cls, name, "()V")

    def test_what_goes_ahead(self):
        for word in ("invokevirtual", "invokespecial", "invokestatic", "invokeinterface", "invokespecial_i",
                     "invokestatic_i"):
            self.asks(MISSING, word, "Gone", "m", "()V")
            self.asks(MISSING, word, "Bad", "m", "()V")
            self.asks(ACCESS, word, "p/Far", "nothing", "()V")
            self.asks(METHOD, word, "I" if word == "invokeinterface" or word.endswith("_i") else "U", "none", "()V")
        for word in ("invokeinterface", "invokespecial_i", "invokestatic_i"):
            self.asks(ACCESS, word, "I", "p", "()V")

    def test_init(self):
        self.asks(("a", "P", "<init>", "()V"), "invokespecial", "P", "<init>", "()V")
        self.asks(("base", "Object", "<init>", "()V"), "invokespecial", "Object", "<init>", "()V")
        self.asks(METHOD, "invokespecial", "V", "<init>", "()V")
        self.asks(METHOD, "invokespecial", "U", "<init>", "(I)V")
        self.asks(CHANGE, "invokespecial", "I", "<init>", "()V")

    def test_init_that_is_not_accessible(self):
        world = World({"a": {"U": file("U"), "A": file("A", "P"), "P": file("P", methods=[method("<init>", "private")])}})
        self.assertEqual(asked(world, ("a", "U"), "m", ("invokespecial", "A", "<init>", "()V")), ACCESS)

    def test_arrays(self):
        self.asks(("base", "Object", "hashCode", "()I"), "invokevirtual", "[I", "hashCode", "()I")
        self.asks(("base", "Object", "clone", "()LObject;"), "invokevirtual", "[[LU;", "clone", "()LObject;")
        self.asks(METHOD, "invokevirtual", "[LI;", "m", "()V")
        self.asks(MISSING, "invokevirtual", "[LGone;", "clone", "()LObject;")


class AskedTypes(AskCase):
    def test_new(self):
        self.asks(("a", "U"), "new", "U")
        self.asks("InstantiationError", "new", "I")
        self.asks("InstantiationError", "new", "Abs")
        self.asks(MISSING, "new", "Gone")
        self.asks(ACCESS, "new", "p/Far")

    def test_others(self):
        for word in ("class", "checkcast", "instanceof", "anewarray"):
            for name, expected in (("U", ("a", "U")), ("I", ("a", "I")), ("Abs", ("a", "Abs")), ("[I", ("base", "[I")),
                                   ("[LU;", ("a", "[LU;")), ("Gone", MISSING), ("p/Far", ACCESS), ("[Lp/Far;", ACCESS)):
                self.asks(expected, word, name)
        self.asks(("a", "[[LU;"), "multianewarray", "[[LU;", 1)
        self.asks(MISSING, "multianewarray", "[[LGone;", 2)

    def test_nothing(self):
        for row in (("nop",), ("iconst", 1), ("string", "x"), ("iload", 0), ("goto", 3), ("newarray", "I"), ("athrow",),
                    ("switch", ((1, 2),), 3), ("switch", [(1, 2)], 3), ("areturn",), ("aaload",), ("monitorenter",),
                    ("iinc", 0, 1), ("arraylength",)):
            self.asks(None, *row)


class AskedWrongly(AskCase):
    def test_rows(self):
        wrong = odd_things() + [None, 0, "nop", (), ["nop"], ("nop", 1), ("Nop",), ("iconst", 2 ** 31), ("new", "[I"),
                                ("invokevirtual", "U", "<init>", "()V"), ("invokespecial", "U", "<init>", "()I"),
                                ("anewarray", "[[[[[I"), ("multianewarray", "[I", 2), (None,), (["nop"],),
                                ("switch", ((2, 0), (1, 0)), 3), ("switch", ((1, 0), (1, 2)), 3), ("goto",)]
        for row in wrong:
            self.raises(NoRow, {"row": row}, asked, self.world, ("a", "U"), "m", row)

    def test_the_user_goes_ahead(self):
        self.raises(NotDefined, {"cls": ("a", "Gone")}, asked, self.world, ("a", "Gone"), "m", None)
        self.raises(NotFound, {"name": "Bad", "word": MISSING}, asked, self.world, ("a", "Bad"), "m", None)

    def test_by_names(self):
        row = ("new", "U")
        self.assertEqual(asked(row=row, method="m", user=("a", "U"), world=self.world), ("a", "U"))
        self.assertEqual(resolved_type(name="U", user=("a", "U"), world=self.world), ("a", "U"))
        self.assertEqual(resolved_field(reference=("U", "f", "I"), user=("a", "U"), world=self.world), ("a", "U", "f", "I"))
        self.assertEqual(resolved_method(reference=("U", "m", "()V"), user=("a", "U"), world=self.world),
                         ("a", "U", "m", "()V"))


if __name__ == "__main__":
    unittest.main()
