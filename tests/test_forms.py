"""Forms of classes: [8.5] to [8.9]."""

import inspect
import itertools
import unittest

from helpers import ErrorCase, code, face, file, no_strings
from typegate import forms
from typegate.classes import FLAGS, ClassFile, Uncut
from typegate.errors import NoFile, NotDefined
from typegate.forms import fault
from typegate.worlds import World

ABSTRACT = ["public", "abstract"]
INTERFACE = ["public", "abstract", "interface"]
FIXED = ["public", "static", "final"]
ROOM = code(places=9)
UNCUT = Uncut("cut", 3)
INT = 2 ** 31
LONG = 2 ** 63
SUBSETS = [flags for many in range(len(FLAGS) + 1) for flags in itertools.combinations(FLAGS, many)]


class FormsCase(ErrorCase):
    def keeps(self, thing):
        self.assertIsNone(fault(thing), vars(thing))

    def breaks(self, word, part, number, thing):
        found = fault(thing)
        self.assertEqual(found, (word, part, number), vars(thing))
        self.assertEqual([type(held) for held in found], [str, str, int])

    def field_keeps(self, *field, flags=("public",)):
        self.keeps(file(flags=flags, fields=[field]))

    def field_breaks(self, word, *field, flags=("public",)):
        self.breaks(word, "field", 0, file(flags=flags, fields=[field]))

    def method_keeps(self, *method, flags=("public",)):
        self.keeps(file(flags=flags, methods=[method]))

    def method_breaks(self, word, *method, flags=("public",)):
        self.breaks(word, "method", 0, file(flags=flags, methods=[method]))


class Arguments(FormsCase):
    def test_no_files(self):
        for thing in no_strings() + ["", "A"]:
            if not isinstance(thing, ClassFile):
                self.raises(NoFile, {}, fault, thing)

    def test_interface(self):
        self.assertEqual(str(inspect.signature(fault)), "(file)")
        self.assertEqual(fault.__module__, forms.__name__)
        self.assertIsNone(fault(file=file()))

    def test_a_class_without_form_can_be_told_in_a_world(self):
        wrong = file(flags=["static"])
        self.assertTrue(World({"a": {"A": wrong}}).file_of(("a", "A")) == wrong)
        self.raises(NotDefined, {"cls": ("b", "A")}, World({"a": {"A": wrong}}).file_of, ("b", "A"))


class Classes(FormsCase):
    def test_flags(self):
        for flags in SUBSETS:
            others = set(flags) - {"public", "final", "abstract", "interface"}
            wrong = others or {"final", "abstract"} <= set(flags) or "interface" in flags and "abstract" not in flags
            if wrong:
                self.breaks("flags", "class", -1, file(flags=flags))
            else:
                self.keeps(file(flags=flags))

    def test_some_flags(self):
        for flags in ([], ["final"], ["public", "final"], ["abstract"], ["interface", "abstract"], INTERFACE):
            self.keeps(file(flags=flags))
        for flags in (["private"], ["public", "static"], ["native"], ["synchronized"], ["protected"],
                      ["final", "abstract"], ["interface"], ["public", "interface"], ["final", "interface", "abstract"]):
            self.breaks("flags", "class", -1, file(flags=flags))

    def test_parent(self):
        self.breaks("parent", "class", -1, file(parent=None))
        self.breaks("parent", "class", -1, file(name="p/Object", parent=None))
        self.breaks("parent", "class", -1, file(name="Object", parent="Object"))
        self.breaks("parent", "class", -1, file(name="Object", parent="A"))
        self.keeps(file(name="Object", parent=None))
        for parent in ("Object", "P", "p/Object", "A", "String", "Cloneable"):
            self.keeps(file(parent=parent))
            self.keeps(file(parent=parent, flags=ABSTRACT))

    def test_parent_of_an_interface(self):
        self.keeps(file(flags=INTERFACE))
        for parent in ("P", "p/Object", "A", "Cloneable", None):
            self.breaks("parent", "class", -1, file(parent=parent, flags=INTERFACE))
        for parent in (None, "Object", "A"):
            self.breaks("parent", "class", -1, file(name="Object", parent=parent, flags=INTERFACE))

    def test_interfaces(self):
        for names, number in ((["I", "I"], 1), (["I", "J", "I", "J"], 2), (["I", "J", "J", "I"], 2), (["A", "I", "A"], 2)):
            self.breaks("interfaces", "class", number, file(interfaces=names))
            self.breaks("interfaces", "class", number, face(interfaces=names))
        for names in ([], ["I"], ["I", "J"], ["I", "p/I", "i"], ["A"], ["Object", "String"]):
            self.keeps(file(interfaces=names))
            self.keeps(face(interfaces=names))

    def test_order(self):
        self.breaks("flags", "class", -1, file(flags=["static"], parent=None, interfaces=["I", "I"]))
        self.breaks("parent", "class", -1, file(parent=None, interfaces=["I", "I"]))
        fields, methods = [("f", "I", ["native"], None)], [("m", "()V", [], None)]
        self.breaks("interfaces", "class", 1, file(interfaces=["I", "I"], fields=fields, methods=methods))
        self.breaks("flags", "field", 0, file(fields=fields, methods=methods))
        self.breaks("code", "method", 0, file(methods=methods))


class Fields(FormsCase):
    def test_flags(self):
        for flags in SUBSETS:
            words = set(flags)
            wrong = words - {"public", "private", "protected", "static", "final"}
            if wrong or len(words & {"public", "private", "protected"}) > 1:
                self.field_breaks("flags", "f", "I", flags, None)
            else:
                self.field_keeps("f", "I", flags, None)
            if words == set(FIXED):
                self.field_keeps("f", "I", flags, None, flags=INTERFACE)
            else:
                self.field_breaks("flags", "f", "I", flags, None, flags=INTERFACE)

    def test_some_flags(self):
        self.field_keeps("f", "I", [], None)
        self.field_keeps("f", "I", ["final", "static", "private"], None)
        for flags in (["public", "private"], ["private", "protected"], ["abstract"], ["synchronized"], ["interface"]):
            self.field_breaks("flags", "f", "I", flags, None)
        for flags in ([], ["public"], ["public", "static"], ["static", "final"], ["private", "static", "final"]):
            self.field_breaks("flags", "f", "I", flags, None, flags=INTERFACE)
        self.field_keeps("f", "I", ["final", "static", "public"], None, flags=INTERFACE)

    def test_twice(self):
        def fields(*told):
            return file(fields=[(name, descriptor, flags, None) for name, descriptor, flags in told])
        self.breaks("twice", "field", 1, fields(("f", "I", []), ("f", "I", [])))
        self.breaks("twice", "field", 1, fields(("f", "I", ["static"]), ("f", "I", ["private"])))
        self.breaks("twice", "field", 3, fields(("f", "I", []), ("g", "I", []), ("f", "J", []), ("g", "I", [])))
        self.keeps(fields(("f", "I", []), ("f", "J", []), ("g", "I", []), ("F", "I", []), ("f", "[I", [])))
        self.keeps(fields(("f", "LA;", []), ("f", "LB;", []), ("f", "[LA;", [])))

    def test_constants_of_ints(self):
        for letter in "ZBSCI":
            for constant in (0, 1, -1, 2, 300, 70000, INT - 1, -INT, None):
                self.field_keeps("f", letter, ["static"], constant)
                self.field_keeps("f", letter, FIXED, constant, flags=INTERFACE)
            for constant in (INT, -INT - 1, LONG - 1, -LONG, "", "a", "0"):
                self.field_breaks("constant", "f", letter, ["static"], constant)
                self.field_breaks("constant", "f", letter, FIXED, constant, flags=INTERFACE)

    def test_constants_of_longs(self):
        for constant in (0, INT, -INT - 1, LONG - 1, -LONG, None):
            self.field_keeps("f", "J", ["static"], constant)
        for constant in ("", "0"):
            self.field_breaks("constant", "f", "J", ["static"], constant)

    def test_constants_of_strings(self):
        for constant in ("", "a", "0", "a" * 200, None):
            self.field_keeps("f", "LString;", ["static"], constant)
        for constant in (0, 1, -1, LONG - 1):
            self.field_breaks("constant", "f", "LString;", ["static"], constant)

    def test_constants_of_others(self):
        for descriptor in ("LObject;", "LA;", "Lp/String;", "LStrin;", "LStrings;", "[I", "[J", "[LString;", "[[Z"):
            self.field_keeps("f", descriptor, ["static"], None)
            for constant in (0, 1, "", "a"):
                self.field_breaks("constant", "f", descriptor, ["static"], constant)

    def test_constants_of_fields_that_are_not_static(self):
        for descriptor, constant in (("I", 0), ("Z", 1), ("J", 5), ("LString;", "a"), ("LString;", "")):
            self.field_keeps("f", descriptor, ["static"], constant)
            for flags in ([], ["final"], ["public", "final"]):
                self.field_keeps("f", descriptor, flags, None)
                self.field_breaks("constant", "f", descriptor, flags, constant)

    def test_order_within_a_field(self):
        first = ("f", "I", ["static"], None)
        self.breaks("flags", "field", 1, file(fields=[first, ("f", "I", ["native"], 1)]))
        self.breaks("twice", "field", 1, file(fields=[first, ("f", "I", [], 1)]))
        self.breaks("constant", "field", 1, file(fields=[first, ("g", "I", [], 1)]))

    def test_each_field_has_all_its_rules_ahead_of_the_next_one(self):
        self.breaks("constant", "field", 0, file(fields=[("f", "I", [], 1), ("g", "I", ["native"], None)]))
        self.breaks("twice", "field", 1, file(
            fields=[("f", "I", [], None), ("f", "I", [], None), ("g", "I", ["native"], None), ("h", "I", [], 0)]))
        self.breaks("flags", "field", 1, file(
            fields=[("f", "I", [], None), ("g", "I", ["native"], None), ("f", "I", [], None)]))


def flags_are_wrong(name, words, in_interface):
    """The rule of [8.8], as it is told there."""
    access = words & {"public", "private", "protected"}
    if name == "<clinit>":
        return words != {"static"}
    return bool(
        "interface" in words or len(access) > 1
        or "abstract" in words and words & {"private", "static", "final", "synchronized", "native"}
        or in_interface and (words & {"protected", "final", "synchronized", "native"}
                             or not words & {"public", "private"})
        or name == "<init>" and words - access)


class Methods(FormsCase):
    def test_flags(self):
        for flags in SUBSETS:
            held = None if "abstract" in flags or "native" in flags else ROOM
            for name, word in (("m", None), ("<init>", "init"), ("<clinit>", None)):
                for told, expected in (((), None), (INTERFACE, word)):
                    if flags_are_wrong(name, set(flags), told == INTERFACE):
                        expected = "flags"
                    if expected is None:
                        self.method_keeps(name, "()V", flags, held, flags=told)
                    else:
                        self.method_breaks(expected, name, "()V", flags, held, flags=told)

    def test_some_flags(self):
        for flags in (["interface"], ["public", "private"], ["private", "protected"], ["public", "protected", "static"]):
            self.method_breaks("flags", "m", "()V", flags, ROOM)
        for word in ("private", "static", "final", "synchronized", "native"):
            self.method_breaks("flags", "m", "()V", ["abstract", word], None)
            self.method_keeps("m", "()V", [word], None if word == "native" else ROOM)
        self.method_keeps("m", "()V", ["abstract", "protected"], None)
        self.method_keeps("m", "()V", ["private", "static", "final", "synchronized", "native"], None)

    def test_flags_in_an_interface(self):
        for flags in (["protected"], ["public", "final"], ["public", "synchronized"], [], ["static"], ["private", "final"]):
            self.method_breaks("flags", "m", "()V", flags, ROOM, flags=INTERFACE)
        self.method_breaks("flags", "m", "()V", ["public", "native"], None, flags=INTERFACE)
        self.method_breaks("flags", "m", "()V", ["abstract"], None, flags=INTERFACE)
        for flags in (["public"], ["private"], ["public", "static"], ["private", "static"]):
            self.method_keeps("m", "()V", flags, ROOM, flags=INTERFACE)
        self.method_keeps("m", "()V", ABSTRACT, None, flags=INTERFACE)

    def test_flags_of_init_and_clinit(self):
        for flags in ([], ["public"], ["private"], ["protected"]):
            self.method_keeps("<init>", "()V", flags, ROOM)
            self.method_breaks("flags", "<clinit>", "()V", flags, ROOM)
            self.method_breaks("flags", "<clinit>", "()V", flags, ROOM, flags=INTERFACE)
        for flags in (["public", "static"], ["private", "static"], ["static", "final"], ["static", "synchronized"]):
            self.method_breaks("flags", "<clinit>", "()V", flags, ROOM)
        for word in ("static", "final", "synchronized", "native", "abstract"):
            held = None if word in ("native", "abstract") else ROOM
            self.method_breaks("flags", "<init>", "()V", ["public", word], held)
        for told in (["public"], INTERFACE):
            self.method_keeps("<clinit>", "()V", ["static"], ROOM, flags=told)
            self.method_breaks("flags", "<clinit>", "()V", ["static", "native"], None, flags=told)

    def test_the_base_classes(self):
        """Their native <init> may stand in no other class: only their own places let them by."""
        self.breaks("flags", "method", 0, World({}).file_of(("base", "Object")))
        self.keeps(World({}).file_of(("base", "Cloneable")))

    def test_init(self):
        for flags in (["public"], ["private"]):
            self.method_breaks("init", "<init>", "()V", flags, ROOM, flags=INTERFACE)
            self.method_keeps("<init>", "()V", flags, ROOM, flags=ABSTRACT)
            self.method_keeps("init", "()V", flags, ROOM, flags=INTERFACE)
        for flags in ([], ["protected"]):
            self.method_breaks("flags", "<init>", "()V", flags, ROOM, flags=INTERFACE)

    def test_result(self):
        for descriptor in ("()I", "()J", "()LA;", "()LV;", "(IJ)[I", "(LV;)Z"):
            self.method_breaks("result", "<init>", descriptor, [], ROOM)
            self.method_breaks("result", "<clinit>", descriptor, ["static"], ROOM)
            self.method_keeps("m", descriptor, [], ROOM)
        for descriptor in ("(I)V", "(LA;)V"):
            self.method_breaks("result", "<clinit>", descriptor, ["static"], ROOM)
            self.method_keeps("<init>", descriptor, [], ROOM)
        self.method_breaks("result", "<clinit>", "(I)V", ["static"], ROOM, flags=INTERFACE)

    def test_twice(self):
        def methods(*told):
            return file(methods=[(name, descriptor, flags, ROOM) for name, descriptor, flags in told])
        self.breaks("twice", "method", 1, methods(("m", "()V", []), ("m", "()V", [])))
        self.breaks("twice", "method", 1, methods(("m", "()V", ["static"]), ("m", "()V", ["private"])))
        self.breaks("twice", "method", 2, methods(("<init>", "(I)V", []), ("m", "()V", []), ("<init>", "(I)V", [])))
        self.breaks("twice", "method", 1, methods(("<clinit>", "()V", ["static"]), ("<clinit>", "()V", ["static"])))
        self.keeps(methods(("m", "()V", []), ("m", "()I", []), ("m", "(I)V", []), ("n", "()V", []), ("M", "()V", [])))
        self.keeps(methods(("<init>", "()V", []), ("<init>", "(I)V", []), ("<clinit>", "()V", ["static"])))

    def test_fields_and_methods_are_apart(self):
        self.keeps(file(fields=[("m", "I", [], None)], methods=[("m", "()I", [], ROOM)]))

    def test_code(self):
        for flags in ([], ["public"], ["static"], ["private", "final", "synchronized"]):
            self.method_breaks("code", "m", "()V", flags, None)
            self.method_keeps("m", "()V", flags, ROOM)
            self.method_keeps("m", "()V", flags, UNCUT)
        for flags in (["abstract"], ["public", "native"], ["static", "native"]):
            self.method_breaks("code", "m", "()V", flags, ROOM)
            self.method_breaks("code", "m", "()V", flags, UNCUT)
            self.method_keeps("m", "()V", flags, None)
        self.method_breaks("code", "<init>", "()V", [], None)
        self.method_breaks("code", "<clinit>", "()V", ["static"], None)
        self.method_breaks("code", "m", "()V", ["public"], None, flags=INTERFACE)
        self.method_breaks("code", "m", "()V", ABSTRACT, ROOM, flags=INTERFACE)

    def test_a_class_that_is_not_abstract_may_have_abstract_methods(self):
        self.method_keeps("m", "()V", ["abstract"], None, flags=["final"])
        self.method_keeps("m", "()V", ["abstract"], None, flags=[])

    def test_places(self):
        for descriptor, many in (("()V", 0), ("(I)V", 1), ("(J)V", 2), ("(IJ)V", 3), ("(JJ)J", 4), ("([J)V", 1),
                                 ("(LJ;)V", 1), ("(Z[[ILA;JB)V", 6), ("(" + "J" * 127 + ")V", 254)):
            for flags, places in ((["static"], many), ([], many + 1), (["private"], many + 1)):
                for more in (0, 1):
                    if places + more <= 255:
                        self.method_keeps("m", descriptor, flags, code(places=places + more))
                if places > 0:
                    self.method_breaks("places", "m", descriptor, flags, code(places=places - 1))
                    self.method_keeps("m", descriptor, flags, UNCUT)
        self.method_breaks("places", "<init>", "()V", [], code(places=0))
        self.method_keeps("<clinit>", "()V", ["static"], code(places=0))
        self.method_keeps("m", "(JJ)V", ["native"], None)
        self.method_breaks("places", "m", "()V", ["private"], code(places=0), flags=INTERFACE)
        self.method_keeps("m", "()V", ["private", "static"], code(places=0), flags=INTERFACE)

    def test_the_stack_does_not_count(self):
        self.method_breaks("places", "m", "(J)V", ["static"], code(places=1, stack=5))

    def test_order_within_a_method(self):
        self.method_breaks("flags", "<init>", "()I", ["protected"], None, flags=INTERFACE)
        self.method_breaks("flags", "m", "()V", ["interface"], None)
        self.method_breaks("init", "<init>", "()I", ["public"], None, flags=INTERFACE)
        self.method_breaks("result", "<init>", "()I", [], None)
        self.method_breaks("result", "<clinit>", "(J)V", ["static"], code(places=0))
        first = ("m", "(J)V", [], ROOM)
        self.breaks("flags", "method", 1, file(methods=[first, ("m", "(J)V", ["interface"], None)]))
        self.breaks("twice", "method", 1, file(methods=[first, ("m", "(J)V", [], None)]))
        self.breaks("twice", "method", 1, file(methods=[first, ("m", "(J)V", [], code(places=0))]))
        self.method_breaks("code", "m", "(J)V", ["native"], code(places=0))

    def test_each_method_has_all_its_rules_ahead_of_the_next_one(self):
        late, early = ("m", "(J)V", [], code(places=0)), ("n", "()V", ["interface"], ROOM)
        self.breaks("places", "method", 0, file(methods=[late, early]))
        self.breaks("flags", "method", 0, file(methods=[early, late]))
        fine = ("o", "()V", [], ROOM)
        self.breaks("twice", "method", 1, file(methods=[fine, fine, early, late]))
        self.breaks("code", "method", 1, file(methods=[fine, ("p", "()V", [], None), fine]))


if __name__ == "__main__":
    unittest.main()
