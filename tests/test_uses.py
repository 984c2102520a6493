"""The judge's rules for fields, calls, objects that are not ready, and protected members: [5.6], [5.7], [5.9]."""

import itertools
import unittest

from helpers import ErrorCase, face, file
from judging import JudgeCase, MISSING, thing
from typegate.classes import Code
from typegate.judge import fault_of, frames_of
from typegate.worlds import World

INT, LONG, NULL = "int", "long", "null"
NEW = ("new", 3)


class Fields(JudgeCase):
    def test_getstatic(self):
        for descriptor, entry in (("I", INT), ("Z", INT), ("J", LONG), ("LGone;", thing("Gone")), ("[J", thing("[J"))):
            self.leaves(["top", entry], ("getstatic", "Gone", "x", descriptor), ["top"])
        self.word("full", ("getstatic", "A", "x", "J"), [], room=1)
        self.word(None, ("getstatic", "A", "x", "J"), [], room=2)

    def test_putstatic(self):
        for descriptor, entry in (("I", INT), ("C", INT), ("J", LONG), ("LP;", thing("A")), ("LP;", NULL), ("LI;", thing("P")),
                                  ("LObject;", thing("[I")), ("LGone;", thing("Gone")), ("[LP;", thing("[LA;"))):
            self.leaves([LONG], ("putstatic", "Gone", "x", descriptor), [LONG, entry])
        for descriptor, entry in (("I", LONG), ("J", INT), ("LA;", thing("P")), ("LA;", "top"), ("LA;", NEW), ("LA;", "this"),
                                  ("I", NULL), ("LI;", thing("[I")), ("LA;", INT), ("[I", thing("[J"))):
            self.word("sort", ("putstatic", "A", "x", descriptor), [entry])
        self.word("depth", ("putstatic", "A", "x", "I"), [])
        self.word(MISSING, ("putstatic", "A", "x", "LGone;"), [thing("A")])
        self.word(MISSING, ("putstatic", "A", "x", "LA;"), [thing("Gone")])

    def test_getfield(self):
        self.leaves([INT, LONG], ("getfield", "P", "x", "J"), [INT, thing("A")])
        self.leaves([thing("Gone")], ("getfield", "Gone", "x", "LGone;"), [thing("Gone")])
        self.leaves([thing("Gone")], ("getfield", "Gone", "x", "LGone;"), [NULL])
        self.leaves([INT], ("getfield", "I", "x", "I"), [thing("Q")])
        for entry in ("top", INT, LONG, "this", NEW, thing("P"), thing("Object"), thing("[LA;")):
            self.word("sort", ("getfield", "A", "f", "I"), [entry])
        self.word("depth", ("getfield", "A", "f", "I"), [])
        self.word(MISSING, ("getfield", "Gone", "x", "I"), [thing("A")])
        self.word("full", ("getfield", "A", "x", "J"), [thing("A")], room=1)

    def test_putfield(self):
        self.leaves([INT], ("putfield", "P", "x", "J"), [INT, thing("A"), LONG])
        self.leaves([], ("putfield", "Gone", "x", "LP;"), [NULL, thing("A")])
        self.word("depth", ("putfield", "A", "f", "I"), [INT])
        self.word("depth", ("putfield", "A", "f", "I"), [])
        self.word("sort", ("putfield", "A", "f", "I"), [thing("A"), LONG])
        self.word("sort", ("putfield", "A", "f", "I"), [thing("P"), INT])
        self.word("sort", ("putfield", "A", "f", "I"), [NEW, INT])
        self.word(MISSING, ("putfield", "Gone", "x", "I"), [thing("A"), INT])

    def test_the_value_goes_ahead_of_the_object(self):
        self.word(MISSING, ("putfield", "Bad", "x", "LGone;"), [thing("A"), thing("P")])
        self.word("ClassCircularityError", ("putfield", "Gone", "x", "LBad;"), [thing("A"), thing("P")])
        self.word("sort", ("putfield", "Gone", "x", "I"), [thing("A"), LONG])
        self.word(MISSING, ("putfield", "A", "x", "LGone;"), [INT, thing("A")])

    def put(self, expected, *row, entry="this"):
        """What is said of a field that is put on an object that is not ready, ahead of the call of <init>."""
        rows = [("aload", 0), ("iconst", 1), ("putfield", *row), ("aload", 0), ("invokespecial", "P", "<init>", "()V"),
                ("return",)]
        self.fault(None if expected is None else (2, expected), rows, name="<init>")

    def test_fields_of_its_own_ahead_of_the_call_of_init(self):
        self.put(None, "A", "f", "I")
        self.put("sort", "A", "s", "I")
        self.put("sort", "A", "g", "I")
        self.put("sort", "A", "f", "Z")
        self.put("sort", "P", "f", "I")
        self.put("sort", "Object", "f", "I")

    def test_fields_of_a_new_object_of_its_own(self):
        self.word("sort", ("putfield", "A", "f", "I"), [NEW, INT])
        self.word(None, ("putfield", "A", "f", "I"), ["this", INT])
        self.word("sort", ("getfield", "A", "f", "I"), ["this"])


class Calls(JudgeCase):
    def test_static_ones(self):
        for word in ("invokestatic", "invokestatic_i"):
            self.leaves([INT], (word, "Gone", "x", "()V"), [INT])
            self.leaves([INT, LONG], (word, "A", "x", "(IJLP;)J"), [INT, INT, LONG, thing("A")])
            self.leaves([thing("[[LGone;")], (word, "A", "x", "()[[LGone;"), [])
            self.word("depth", (word, "A", "x", "(IJLP;)J"), [LONG, thing("A")])
            self.word("sort", (word, "A", "x", "(IJ)V"), [LONG, INT])
            self.word("sort", (word, "A", "x", "(LA;)V"), [thing("P")])
            self.word("sort", (word, "A", "x", "(LA;)V"), [NEW])
            self.word("full", (word, "A", "x", "()J"), [], room=1)

    def test_arguments_from_the_top_downwards(self):
        row = ("invokestatic", "A", "x", "(LGone;LBad;)V")
        self.word("ClassCircularityError", row, [thing("A"), thing("A")])
        self.word(MISSING, row, [thing("A"), thing("Bad")])
        self.word("sort", row, [thing("A"), INT])
        self.word(None, row, [thing("Gone"), NULL])

    def test_objects(self):
        for word in ("invokevirtual", "invokeinterface"):
            self.leaves([LONG, INT], (word, "P", "x", "(LI;)Z"), [LONG, thing("A"), thing("Q")])
            self.leaves([], (word, "Gone", "x", "()V"), [NULL])
            self.leaves([], (word, "Gone", "x", "()V"), [thing("Gone")])
            self.leaves([], (word, "I", "x", "()V"), [thing("Q")])
            for entry in ("top", INT, LONG, "this", NEW, thing("P"), thing("[LA;")):
                self.word("sort", (word, "A", "x", "()V"), [entry])
            self.word("depth", (word, "A", "x", "(J)V"), [LONG])
            self.word(MISSING, (word, "Gone", "x", "()V"), [thing("A")])
            self.word("sort", (word, "Gone", "x", "(I)V"), [thing("A"), LONG])
            self.word("sort", (word, "I", "x", "()V"), [thing("[I")])
            self.word(None, (word, "I", "x", "()V"), [thing("[I")], loose=True)

    def test_arrays(self):
        self.leaves([thing("Object")], ("invokevirtual", "[I", "clone", "()LObject;"), [thing("[I")])
        self.word("sort", ("invokevirtual", "[I", "clone", "()LObject;"), [thing("[J")])
        self.leaves([INT], ("invokevirtual", "[LP;", "hashCode", "()I"), [thing("[LA;")])

    def test_special_ones(self):
        for word in ("invokespecial", "invokespecial_i"):
            for name in ("A", "P", "Q", "Object", "I"):
                self.leaves([INT], (word, name, "x", "()I"), [thing("A")])
                self.leaves([INT], (word, name, "x", "()I"), [NULL])
                self.leaves([INT], (word, name, "x", "()I"), [thing("B")])
                for entry in ("top", INT, "this", NEW, thing("P"), thing("I"), thing("[LA;")):
                    self.word("sort", (word, name, "x", "()V"), [entry])
            # J is an interface that only I names, and B stands below.
            for name in ("J", "B", "String", "Cloneable"):
                self.word("special", (word, name, "x", "()V"), [thing("A")])
                self.word("special", (word, name, "x", "()V"), [INT])
                self.word("sort", (word, name, "x", "(I)V"), [INT, LONG])
                self.word("depth", (word, name, "x", "()V"), [])
            self.word(MISSING, (word, "Gone", "x", "()V"), [INT])
            self.word("ClassCircularityError", (word, "Bad", "x", "()V"), [INT])
            self.word("sort", (word, "Gone", "x", "(J)V"), [INT, INT])
            self.word(MISSING, (word, "P", "x", "()V"), [thing("Gone")])

    def test_special_ones_of_another_loader(self):
        # "a" takes the name of the parent for a class of its own.
        rows = [("aload", 0), ("invokespecial", "P", "x", "()V"), ("return",)]
        told = file("A", "P", methods=[("m", "()V", (), Code(1, 1, rows, [], []))])
        for loaders, expected in (({"a": {"A": told, "P": "b"}, "b": {"P": file("P")}}, None),
                                  ({"a": {"A": told, "P": file("P", "Q"), "Q": file("Q")}}, None)):
            self.assertEqual(fault_of(World(loaders), ("a", "A"), "m", "()V"), expected)
        mixed = {"a": {"A": file("A", "P", methods=[("m", "()V", (), Code(1, 1, [
            ("aload", 0), ("invokespecial", "Q", "x", "()V"), ("return",)], [], []))]), "P": "b", "Q": file("Q")},
                 "b": {"P": file("P", "Q"), "Q": file("Q")}}
        self.assertEqual(fault_of(World(mixed), ("a", "A"), "m", "()V"), (1, "special"))

    def test_no_sort_of_an_array_of_the_interface(self):
        self.word("sort", ("invokespecial_i", "I", "x", "()V"), [thing("[I")])


class Inits(JudgeCase):
    def test_a_new_object(self):
        rows = [("new", "B"), ("dup",), ("astore", 1), ("dup",), ("invokespecial", "B", "<init>", "()V"), ("return",)]
        told = ("m", "()V", (), Code(3, 3, rows, [], []))
        found = frames_of(self.world_for(told), ("a", "A"), "m", "()V")
        self.assertEqual(found[3], ((thing("A"), ("new", 0), "top"), (("new", 0),), False))
        self.assertEqual(found[5], ((thing("A"), thing("B"), "top"), (thing("B"),), False))

    def test_one_of_two_new_objects(self):
        rows = [("new", "B"), ("astore", 1), ("new", "B"), ("aload", 1), ("aload", 1),
                ("invokespecial", "B", "<init>", "()V"), ("return",)]
        found = frames_of(self.world_for(("m", "()V", (), Code(3, 2, rows, [], []))), ("a", "A"), "m", "()V")
        self.assertEqual(found[6], ((thing("A"), thing("B")), (("new", 2), thing("B")), False))

    def test_the_named_class(self):
        self.word(None, ("invokespecial", "A", "<init>", "()V"), [NEW])
        for name in ("P", "B", "Object", "Gone"):
            self.word("sort", ("invokespecial", name, "<init>", "()V"), [NEW])
        for entry in ("top", INT, LONG, NULL, thing("A")):
            self.word("sort", ("invokespecial", "A", "<init>", "()V"), [entry])

    def test_arguments(self):
        row = ("invokespecial", "A", "<init>", "(JLP;)V")
        self.word(None, row, [NEW, LONG, thing("A")])
        self.word("depth", row, [LONG, thing("A")])
        self.word("sort", row, [NEW, LONG, INT])
        self.word(MISSING, ("invokespecial", "B", "<init>", "(LP;)V"), [NEW, thing("Gone")])

    def test_this(self):
        for name, expected in (("A", None), ("P", None), ("Q", (1, "sort")), ("Object", (1, "sort")), ("B", (1, "sort"))):
            self.fault(expected, [("aload", 0), ("invokespecial", name, "<init>", "()V"), ("return",)], name="<init>")

    def test_all_copies_become_ready(self):
        rows = [("aload", 0), ("dup",), ("astore", 2), ("dup",), ("invokespecial", "P", "<init>", "(I)V"), ("return",)]
        rows.insert(4, ("iconst", 1))
        told = ("<init>", "()V", (), Code(4, 4, rows, [], []))
        found = frames_of(self.world_for(told), ("a", "A"), "<init>", "()V")
        self.assertEqual(found[0], (("this", "top", "top", "top"), (), True))
        self.assertEqual(found[5], (("this", "top", "this", "top"), ("this", "this", INT), True))
        self.assertEqual(found[6], ((thing("A"), "top", thing("A"), "top"), (thing("A"),), False))

    def test_a_second_call(self):
        rows = [("aload", 0), ("invokespecial", "P", "<init>", "()V"), ("aload", 0), ("invokespecial", "P", "<init>", "()V"),
                ("return",)]
        self.fault((3, "sort"), rows, name="<init>")

    def test_a_return_without_a_call(self):
        self.fault((0, "raw"), [("return",)], name="<init>")
        self.fault((1, "raw"), [("iinc", 1, 1), ("return",)], name="<init>", descriptor="(I)V")
        self.fault((2, "raw"), [("aconst_null",), ("astore", 0), ("return",)], name="<init>")

    def test_branches(self):
        rows = [("iload", 1), ("ifeq", 5), ("aload", 0), ("invokespecial", "P", "<init>", "()V"), ("return",),
                ("aload", 0), ("invokespecial", "A", "<init>", "(I)V"), ("return",)]
        rows[6:6] = [("iload", 1)]
        self.fault(None, rows, [(5, ["this", "int"], [])], name="<init>", descriptor="(I)V")
        self.fault((1, "goal"), rows, [(5, [thing("A"), "int"], [])], name="<init>", descriptor="(I)V")

    def test_branches_that_meet(self):
        rows = [("iload", 1), ("ifeq", 4), ("aload", 0), ("invokespecial", "P", "<init>", "()V"), ("return",)]
        # One way the object is ready, the other way it is not.
        self.fault((4, "frame"), rows, [(4, ["this", "int"], [])], name="<init>", descriptor="(I)V")
        self.fault((1, "goal"), rows, [(4, [thing("A"), "int"], [])], name="<init>", descriptor="(I)V")
        self.fault((1, "goal"), rows, [(4, ["top", "int"], [])], name="<init>", descriptor="(I)V")

    def test_a_static_method_has_no_object(self):
        self.fault((0, "sort"), [("aload", 0), ("return",)], flags=["static"])
        self.fault(None, [("iload", 0), ("lload", 1), ("aload", 3), ("areturn",)], flags=["static"],
                   descriptor="(SJ[LGone;)[LGone;")

    def test_special_in_an_init_is_another_call(self):
        self.word("special", ("invokespecial", "J", "x", "()V"), ["this"])
        self.word("sort", ("invokespecial", "P", "x", "()V"), ["this"])


class Protected(ErrorCase):
    """U is below P; P, of the package p, declares protected members; V is below U, and T beside it."""

    def world(self, row, stack, own="U", flags=("protected",), at_p=True, loader="a", more=()):
        members = dict(fields=[("f", "I", flags, None)],
                       methods=[("m", "()V", flags, Code(0, 1, [("return",)], [], [])),
                                ("clone", "()LObject;", flags, Code(1, 1, [("aconst_null",), ("areturn",)], [], []))])
        rows = [("goto", 0), row, ("return",), ("new", own), ("return",)]
        body = Code(9, 9, rows, [], [(0, [], []), (1, [], stack), (3, [], [])])
        told = [("go", "()V", ("static",), body)]
        top = file("p/O", **members)
        classes = {"p/O": top, "p/P": file("p/P", "p/O") if not at_p else file("p/P", **members),
                   "p/N": file("p/N", "p/P"), "U": file("U", "p/P", methods=told), "V": file("V", "U"),
                   "T": file("T", "p/P"), "p/W": file("p/W", "p/P", methods=told)}
        return World({"a": classes})

    def judge(self, expected, row, stack, own="U", **more):
        world = self.world(row, stack, own, **more)
        found = fault_of(world, ("a", own), "go", "()V")
        self.assertEqual(found, None if expected is None else (1, expected), (row, stack))

    ROWS = (("getfield", "f", "I", []), ("putfield", "f", "I", [INT]), ("invokevirtual", "m", "()V", []))

    def test_the_object(self):
        for at_p in (True, False):
            for word, name, descriptor, more in self.ROWS:
                for entry, expected in ((thing("U"), None), (thing("V"), None), (NULL, None), (thing("T"), "protected"),
                                        (thing("p/P"), "protected"), (thing("p/N"), "protected"), (thing("String"), "sort")):
                    self.judge(expected, (word, "p/P", name, descriptor), [entry, *more], at_p=at_p)

    def test_other_names_for_it(self):
        for word, name, descriptor, more in self.ROWS:
            # By its own name, or by that of a class that is no parent, nothing is asked.
            self.judge(None, (word, "U", name, descriptor), [thing("U"), *more])
            self.judge(None, (word, "T", name, descriptor), [thing("T"), *more])
            self.judge(None, (word, "V", name, descriptor), [thing("V"), *more])

    def test_in_the_same_package(self):
        for word, name, descriptor, more in self.ROWS:
            self.judge(None, (word, "p/P", name, descriptor), [thing("T"), *more], own="p/W")

    def test_members_that_are_not_protected(self):
        for flags in (("public",), ("private",), (), ("protected", "static")):
            for word, name, descriptor, more in self.ROWS:
                self.judge(None, (word, "p/P", name, descriptor), [thing("T"), *more], flags=flags)

    def test_members_that_are_not_there(self):
        for word, name, descriptor, more in self.ROWS:
            self.judge(None, (word, "p/P", "none", descriptor), [thing("T"), *more])

    def test_sort_and_depth_go_ahead(self):
        self.judge("sort", ("putfield", "p/P", "f", "I"), [thing("T"), LONG])
        self.judge("depth", ("invokevirtual", "p/P", "m", "()V"), [])

    def test_a_class_that_is_not_found(self):
        self.judge(MISSING, ("invokevirtual", "p/P", "m", "()V"), [thing("Gone")])
        self.judge(MISSING, ("invokevirtual", "Object", "clone", "()LObject;"), [thing("Gone")])

    def test_interfaces(self):
        # Any object fits an interface, and by a class such a call resolves nothing.
        self.judge(None, ("invokeinterface", "Cloneable", "m", "()V"), [thing("T")])
        self.judge(None, ("invokeinterface", "p/P", "m", "()V"), [thing("T")])
        self.judge("sort", ("invokeinterface", "p/P", "m", "()V"), [thing("String")])

    def test_copies(self):
        row = ("invokevirtual", "Object", "clone", "()LObject;")
        for name, expected in (("U", None), ("V", None), ("T", "protected"), ("Object", "protected"), ("String", "protected"),
                               ("[I", None), ("[LGone;", None), ("[[J", None)):
            self.judge(expected, row, [thing(name)])
        self.judge(None, ("invokevirtual", "Object", "hashCode", "()I"), [thing("T")])
        self.judge("sort", ("invokevirtual", "p/P", "clone", "()LObject;"), [thing("[I")])

    def test_another_loader_with_the_same_package(self):
        rows = [("aload", 0), ("invokevirtual", "p/P", "m", "()V"), ("return",)]
        body = Code(1, 1, rows, [], [])
        above = file("p/P", methods=[("m", "()V", ("protected",), Code(0, 1, [("return",)], [], []))])
        for loaders, expected in (({"a": {"p/U": file("p/U", "p/P", methods=[("go", "(Lp/P;)V", ("static",), body)]), "p/P": "b"},
                                    "b": {"p/P": above}}, (1, "protected")),
                                  ({"a": {"p/U": file("p/U", "p/P", methods=[("go", "(Lp/P;)V", ("static",), body)]),
                                          "p/P": above}}, None)):
            self.assertEqual(fault_of(World(loaders), ("a", "p/U"), "go", "(Lp/P;)V"), expected)

    def test_loosely(self):
        # To a class that is an interface an array fits loosely.
        self.assertIsNone(fault_of(self.world(("checkcast", "I"), [NULL]), ("a", "U"), "go", "()V", loose=True))


class ProtectedInits(ErrorCase):
    def judge(self, expected, named, declared, flags=("protected",), user="U", descriptor="()V", made=None):
        """A new object of a class, and the call of its <init>; P and U may declare one."""
        init = ("<init>", "()V", flags, Code(0, 1, [("return",)], [], []))
        rows = [("new", made or named), ("invokespecial", named, "<init>", descriptor), ("return",)]
        body = ("go", "()V", ("static",), Code(1, 1, rows, [], []))
        world = World({"a": {
            "p/P": file("p/P", methods=[init] if "P" in declared else []),
            "U": file("U", "p/P", methods=[body] + ([init] if "U" in declared else [])),
            "p/W": file("p/W", "p/P", methods=[body]),
            "T": file("T", "p/P", methods=[init] if "T" in declared else []),
            "q/S": file("q/S", "U", methods=[init] if "S" in declared else [])}})
        self.assertEqual(fault_of(world, ("a", user), "go", "()V"), None if expected is None else (1, expected))

    def test_of_another_package(self):
        self.judge("protected", "p/P", "P")
        self.judge("protected", "U", "P")
        self.judge(None, "U", "PU")
        self.judge(None, "p/P", "P", user="p/W")

    def test_of_the_same_package(self):
        self.judge(None, "T", "T")
        self.judge(None, "T", "PT")

    def test_that_cannot_be_resolved(self):
        # Not accessible, as T is no kin of U; or not there.
        self.judge(None, "T", "P")
        self.judge(None, "q/S", "S")
        self.judge(None, "p/P", "P", descriptor="()V", flags=())

    def test_not_protected(self):
        for flags in (("public",), (), ("private",)):
            self.judge(None, "p/P", "P", flags)
            self.judge(None, "U", "P", flags)

    def test_sort_goes_ahead(self):
        self.judge("sort", "p/P", "P", made="U")

    def test_this_is_not_asked(self):
        init = ("<init>", "()V", ("protected",), Code(0, 1, [("return",)], [], []))
        own = ("<init>", "()V", (), Code(1, 1, [("aload", 0), ("invokespecial", "p/P", "<init>", "()V"), ("return",)], [], []))
        world = World({"a": {"p/P": file("p/P", methods=[init]), "U": file("U", "p/P", methods=[own])}})
        self.assertIsNone(fault_of(world, ("a", "U"), "<init>", "()V"))


class Names(JudgeCase):
    def test_what_is_not_looked_for(self):
        """Names that nobody needs to look at are let by, whether they denote something or not."""
        for row, stack in ((("class", "Gone"), []), (("checkcast", "Bad"), [NULL]), (("instanceof", "[LGone;"), [NULL]),
                           (("new", "Gone"), []), (("anewarray", "Gone"), [INT]), (("getstatic", "Gone", "x", "LBad;"), []),
                           (("getfield", "Gone", "x", "LBad;"), [NULL]), (("invokestatic", "Gone", "x", "(LBad;)V"), [NULL]),
                           (("invokevirtual", "Gone", "x", "(LBad;)LGone;"), [thing("Gone"), thing("Bad")])):
            self.word(None, row, stack)

    def test_errors_of_classes(self):
        self.word("ClassCircularityError", ("putstatic", "A", "x", "LBad;"), [thing("A")])
        self.word("ClassCircularityError", ("putstatic", "A", "x", "LA;"), [thing("Bad")])
        self.word("ClassCircularityError", ("athrow",), [thing("Bad")])
        self.word(MISSING, ("putstatic", "A", "x", "[LGone;"), [thing("[LA;")])

    def test_every_word_in_one_place_alone(self):
        # The nearest ones that are right.
        for row, stack in itertools.product([("putstatic", "A", "x", "LP;")], [[thing("A")], [NULL], [thing("P")]]):
            self.word(None, row, stack)


if __name__ == "__main__":
    unittest.main()
