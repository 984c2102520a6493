"""What the machine is asked from outside: calls, and what is told of objects and classes: [10.16] to [10.21]."""

import random
import unittest

from helpers import ErrorCase, face, file, no_integers, no_rows, no_strings, odd_things
from machining import HIGH, HIGHEST, LOW, LOWEST, MachineCase, body, init, made, new
from typegate.classes import Code, Uncut
from typegate.errors import NoCall, NoFrames, NotDefined
from typegate.finding import frames_found
from typegate.judge import frames_of, judged
from typegate.loading import loading_error
from typegate.machine import Machine
from typegate.quarrels import can_quarrel
from typegate.worlds import World

I, J, N = ("iconst", 5), ("lconst", 6), ("aconst_null",)


class Refused(ErrorCase):
    def setUp(self):
        methods = [made("go", [("iload", 0), ("ireturn",)], "(I)I"), made("own", [("return",)], "(LA;)V", ("public",)), init(),
                   ("<clinit>", "()V", ("static",), body([("return",)])), ("u", "()V", ("static",), Uncut("map", 0)),
                   ("n", "()V", ("static", "native"), None), made("give", [*new("A"), ("areturn",)], "()LA;"),
                   made("bad", [("iadd",)]), made("loop", [("goto", 0)]), made("other", [*new("C"), ("areturn",)], "()LC;"),
                   made("below", [*new("B"), ("areturn",)], "()LB;")]
        self.world = World({"a": {"A": file("A", methods=methods), "B": file("B", "A", methods=[init("A")]), "C": file("C", methods=[init()]),
                                  "Bad": file("Bad", "Gone", methods=methods), "X": "b"}, "b": {"A": "a"}})
        self.machine = Machine(self.world)

    def refuses(self, why, *arguments, machine=None, **more):
        for call in ((machine or self.machine).call, (machine or self.machine).seen):
            self.raises(NoCall, {"why": why}, call, *arguments, **more)

    def test_loaders(self):
        for loader in no_strings() + ["", "c", "A"]:
            self.refuses("loader", loader, None, None, None, None, steps=None)
            self.raises(NoCall, {"why": "loader"}, self.machine.statics, loader, None)

    def test_classes(self):
        for name in no_strings() + ["", "Gone", "Bad", "[LA;", "LA;", "X", "p/A"]:
            self.refuses("class", "a", name, None, None, None, steps=None)
            self.raises(NoCall, {"why": "class"}, self.machine.statics, "a", name)
        self.refuses("class", "b", "B", None, None, None, steps=None)
        self.assertEqual(self.machine.call("b", "A", "go", "(I)I", [3]), ("returned", 3))

    def test_methods(self):
        for name, descriptor in (("go", "()I"), ("none", "()V"), ("<init>", "()V"), ("<clinit>", "()V"), ("u", "()V"), ("n", "()V"),
                                 (None, None), ("go", None), (None, "(I)I"), (["go"], "(I)I")):
            self.refuses("method", "a", "A", name, descriptor, None, steps=None)
        # Not what is inherited, nor what base classes have.
        self.refuses("method", "a", "B", "go", "(I)I", [3])
        self.refuses("method", "base", "Object", "hashCode", "()I", [3])

    def test_rows_of_arguments(self):
        for arguments in no_rows():
            self.refuses("arguments", "a", "A", "go", "(I)I", arguments, steps=None)
        for arguments in ([], [1, 2], (), (1, 2)):
            self.refuses("arguments", "a", "A", "go", "(I)I", arguments, steps=None)
        self.assertEqual(self.machine.call("a", "A", "go", "(I)I", (3,)), ("returned", 3))

    def test_steps(self):
        for steps in no_integers() + [0, -1, 100001]:
            self.refuses("steps", "a", "A", "go", "(I)I", [3], steps=steps)
            self.refuses("arguments", "a", "A", "go", "(I)I", [], steps=steps)
        for steps in (3, 100000):
            self.assertEqual(self.machine.call("a", "A", "go", "(I)I", [3], steps=steps), ("returned", 3))

    def test_stopped(self):
        for method, outcome in (("bad", "wrong"), ("loop", "open")):
            machine = Machine(self.world)
            self.assertEqual(machine.seen("a", "A", method, "()V", [], steps=2)[1][1], method)
            self.assertEqual(machine.call("a", "A", "go", "(I)I", [3]), ("returned", 3))
            self.assertEqual(machine.call("a", "A", method, "()V", [])[0], outcome)
            self.refuses("stopped", None, None, None, None, None, machine=machine, steps=None)
            self.refuses("stopped", "a", "A", "go", "(I)I", [3], machine=machine)
            self.assertEqual(machine.statics("a", "A"), {})

    def test_objects_of_the_class(self):
        (_, own), (_, below), (_, other) = [self.machine.call("a", "A", name, "()L" + cls + ";", []) for name, cls in (
            ("give", "A"), ("below", "B"), ("other", "C"))]
        for first in (own, below):
            self.assertEqual(self.machine.call("a", "A", "own", "(LA;)V", [first, None]), ("returned",))
        for first in (other, None, "text", 3, ("ref", 4), ("ref", 0), ("ref", -1), ("ref", True), ["ref", 1], ("ref",), ("ref", 1, 1), ("reference", 1)):
            self.refuses("arguments", "a", "A", "own", "(LA;)V", [first, None])
            if first is not None:
                self.refuses("arguments", "a", "A", "own", "(LA;)V", [own, first])
        self.refuses("arguments", "a", "A", "own", "(LA;)V", [own])
        self.refuses("arguments", "a", "A", "own", "(LA;)V", [own, None, None])

    def test_raw_objects(self):
        methods = [made("raw", [("new", "D"), ("pop",), *new("D"), ("areturn",)], "()LD;"), made("take", [("return",)], "(LD;)V"),
                   made("own", [("return",)], "()V", ("public",)), init()]
        machine = Machine(World({"a": {"D": file("D", methods=methods)}}))
        self.assertEqual(machine.call("a", "D", "raw", "()LD;", []), ("returned", ("ref", 2)))
        self.assertIs(machine.is_raw(("ref", 1)), True)
        self.refuses("arguments", "a", "D", "take", "(LD;)V", [("ref", 1)], machine=machine)
        self.refuses("arguments", "a", "D", "own", "()V", [("ref", 1)], machine=machine)
        self.assertEqual(machine.call("a", "D", "take", "(LD;)V", [("ref", 2)]), ("returned",))


class Values(ErrorCase):
    def take(self, descriptor, value, right, world=None, machine=None):
        world = world or World({"a": {
            "A": file("A", interfaces=["I"], methods=[made("m", [("return",)], "(" + descriptor + ")V")]),
            "B": file("B", methods=[init(), made("give", [*new("B"), ("areturn",)], "()LB;"),
                                    made("array", [("iconst", 1), ("anewarray", "B"), ("areturn",)], "()[LB;"),
                                    made("ints", [("iconst", 1), ("newarray", "I"), ("areturn",)], "()[I")]),
            "I": face("I"), "Lost": file("Lost", "Gone")}})
        machine = machine or Machine(world)
        if isinstance(value, list):
            value = machine.call("a", "B", *value, [])[1]
        if right:
            self.assertEqual(machine.call("a", "A", "m", "(" + descriptor + ")V", [value]), ("returned",), (descriptor, value))
        else:
            self.raises(NoCall, {"why": "arguments"}, machine.call, "a", "A", "m", "(" + descriptor + ")V", [value])

    def test_numbers(self):
        for letter in "ZBSCI":
            for number in (0, 1, -1, LOW, HIGH):
                self.take(letter, number, True)
            for number in (LOW - 1, HIGH + 1):
                self.take(letter, number, False)
        for number in (0, LOW - 1, LOWEST, HIGHEST):
            self.take("J", number, True)
        for number in (LOWEST - 1, HIGHEST + 1):
            self.take("J", number, False)
        for thing in no_integers():
            for letter in "ZIJ":
                if thing != [0] and not isinstance(thing, list):
                    self.take(letter, thing, False)

    def test_numbers_are_not_narrowed(self):
        world = World({"a": {"A": file("A", methods=[made("m", [("iload", 0), ("ireturn",)], "(Z)I")])}})
        self.assertEqual(Machine(world).call("a", "A", "m", "(Z)I", [7]), ("returned", 7))

    def test_references(self):
        give, array, ints = ["give", "()LB;"], ["array", "()[LB;"], ["ints", "()[I"]
        for descriptor, right in (("LB;", [give]), ("LA;", []), ("LObject;", [give, array, ints]), ("LI;", [give, array, ints]),
                                  ("[LB;", [array]), ("[I", [ints]), ("[LI;", [array]), ("[LObject;", [array]), ("[J", []), ("[[LB;", []),
                                  ("LCloneable;", [give, array, ints]), ("LString;", []), ("LGone;", []), ("LLost;", []), ("[LGone;", [])):
            for value in (give, array, ints):
                self.take(descriptor, value, value in right)
            self.take(descriptor, None, True)
            self.take(descriptor, 0, False)

    def test_texts(self):
        for descriptor, right in (("LString;", True), ("LObject;", True), ("LI;", True), ("LSerializable;", True), ("LA;", False),
                                  ("[LString;", False), ("LGone;", False), ("LLost;", False), ("I", False), ("[LGone;", False)):
            for text in ("", "text", "x" * 300):
                self.take(descriptor, text, right)
        for text in ("100%", "\n", "\x7f", "\u00e4"):
            self.take("LString;", text, False)

    def test_texts_become_strings(self):
        world = World({"a": {"A": file("A", methods=[made("m", [("aload", 0), ("areturn",)], "(LString;LString;LObject;)LString;")])}})
        machine = Machine(world)
        descriptor = "(LString;LString;LObject;)LString;"
        self.assertEqual(machine.call("a", "A", "m", descriptor, ["one", "two", "one"]), ("returned", ("ref", 1)))
        self.assertEqual([machine.held(("ref", k)) for k in (1, 2)], ["one", "two"])
        self.raises(NoCall, {"why": "reference"}, machine.held, ("ref", 3))
        self.assertEqual(machine.call("a", "A", "m", descriptor, ["two", None, None]), ("returned", ("ref", 2)))

    def test_strings_are_made_ahead_of_the_beginning(self):
        methods = [made("m", [("aload", 0), ("areturn",)], "(LString;)LString;"), ("<clinit>", "()V", ("static",), body([("string", "x"), ("pop",), ("return",)]))]
        machine = Machine(World({"a": {"A": file("A", fields=[("k", "LString;", ("static",), "k")], methods=methods)}}))
        self.assertEqual(machine.call("a", "A", "m", "(LString;)LString;", ["t"]), ("returned", ("ref", 1)))
        self.assertEqual([machine.held(("ref", k)) for k in (1, 2, 3)], ["t", "k", "x"])


class Outcomes(MachineCase):
    def test_returned(self):
        for rows, descriptor, expected in (([("return",)], "()V", ("returned",)), ([I, ("ireturn",)], "()I", ("returned", 5)),
                                           ([J, ("lreturn",)], "()J", ("returned", 6)), ([N, ("areturn",)], "()LA;", ("returned", None)),
                                           ([("string", "x"), ("areturn",)], "()LString;", ("returned", ("ref", 1)))):
            self.assertEqual(self.run_rows(rows, descriptor=descriptor)[1], expected)

    def test_calls_on_objects(self):
        rows = [("aload", 0), ("getfield", "A", "f", "I"), ("iload", 3), ("iadd",), ("i2l",), ("lload", 1), ("lsub",), ("lreturn",)]
        methods = [made("m", rows, "(JI)J", ("public",)), made("give", [*new("B"), ("dup",), I, ("putfield", "A", "f", "I"), ("areturn",)], "()LA;")]
        machine = Machine(self.world(methods=methods))
        _, reference = machine.call("a", "A", "give", "()LA;", [])
        self.assertEqual(machine.call("a", "A", "m", "(JI)J", [reference, 100, 7]), ("returned", -88))
        self.assertEqual(machine.seen("a", "A", "m", "(JI)J", [reference, 100, 7])[0][4][:5],
                         [("ref", 1), ("long", 100), "half", ("int", 7), "unset"])

    def test_thrown(self):
        machine, found = self.run_rows([N, ("athrow",)])
        self.assertEqual(found, ("thrown", ("ref", 1)))
        self.assertEqual(machine.sort_of(("ref", 1)), ("base", "NullPointerException"))
        self.assertEqual(machine.call("a", "A", "go", "()V", []), ("thrown", ("ref", 2)))

    def test_steps(self):
        rows = [I, ("istore", 1), ("iinc", 1, -1), ("iload", 1), ("ifgt", 2), ("return",)]
        needed = 2 + 5 * 3 + 1
        for steps in range(1, needed + 4):
            _, found = self.run_rows(rows, steps=steps)
            self.assertEqual(found, ("returned",) if steps >= needed else ("open", "steps"))

    def test_more_steps_tell_the_same(self):
        rows = [*new("A"), ("pop",), N, ("athrow",)]
        for steps in (20, 100, 100000):
            self.assertEqual(self.run_rows(rows, steps=steps)[1], ("thrown", ("ref", 2)))
        self.assertEqual(self.run_rows([("iadd",)], steps=1)[1][:2], ("wrong", "few"))

    def test_room_for_arrays(self):
        for row in (("newarray", "I"), ("anewarray", "A"), ("multianewarray", "[I", 1)):
            self.ends([("iconst", 1000), row])
            self.assertEqual(self.run_rows([("iconst", 1001), row])[1], ("open", "room"))
        for sizes, expected in (((2, 1001), ("open", "room")), ((1001, 0), ("open", "room")), ((0, 1001), ("returned",)), ((2, 1000), ("returned",))):
            rows = [("iconst", sizes[0]), ("iconst", sizes[1]), ("multianewarray", "[[I", 2), ("pop",), ("return",)]
            self.assertEqual(self.run_rows(rows)[1], expected)
        self.assertEqual(self.run_rows([("iconst", 200), ("iconst", 200), ("multianewarray", "[[[I", 2), ("pop",), ("return",)])[1],
                         ("returned",))
        self.assertEqual(self.run_rows([("iconst", 100), ("iconst", 100), ("iconst", 1), ("multianewarray", "[[[I", 3)])[1], ("open", "room"))

    def fill(self, many):
        """A machine with so many objects."""
        rows = [("iload", 0), ("ifne", 3), ("return",), ("iconst", 0), ("newarray", "I"), ("pop",), ("iinc", 0, -1), ("goto", 0)]
        machine = Machine(self.world(methods=[
            made("fill", rows, "(I)V"), made("text", [("string", "x"), ("pop",), ("return",)]), made("type", [("class", "A"), ("pop",), ("return",)]),
            made("fail", [N, ("athrow",)]), made("new", [("new", "A"), ("pop",), ("return",)]),
            made("copy", [("aload", 0), ("invokevirtual", "[I", "clone", "()LObject;"), ("pop",), ("return",)], "([I)V"),
            made("sync", [("return",)], "()V", ("public", "static", "synchronized")), made("take", [("return",)], "(LString;)V")]))
        self.assertEqual(machine.call("a", "A", "fill", "(I)V", [many], steps=100000), ("returned",))
        return machine

    def test_ten_thousand_objects(self):
        machine = self.fill(10000)
        self.assertEqual(machine.sort_of(("ref", 10000)), ("base", "[I"))
        self.raises(NoCall, {"why": "reference"}, machine.sort_of, ("ref", 10001))
        self.assertEqual(machine.call("a", "A", "go", "()V", []), ("returned",))
        for name, descriptor, arguments in (("text", "()V", []), ("type", "()V", []), ("fail", "()V", []), ("new", "()V", []),
                                            ("copy", "([I)V", [("ref", 7)]), ("sync", "()V", []), ("take", "(LString;)V", ["t"]),
                                            ("fill", "(I)V", [1])):
            machine = self.fill(9999)
            other = self.fill(10000)
            self.assertIn(machine.call("a", "A", name, descriptor, arguments)[0], ("returned", "thrown"), name)
            self.assertEqual(other.call("a", "A", name, descriptor, arguments), ("open", "room"), name)
            self.raises(NoCall, {"why": "stopped"}, other.call, "a", "A", "go", "()V", [])

    def test_what_was_made_stays(self):
        rows = [("getstatic", "A", "u", "LA;"), ("astore", 1), *new("A"), ("putstatic", "A", "u", "LA;"), ("aload", 1), ("areturn",)]
        machine = Machine(self.world(rows, "()LA;"))
        self.assertEqual([machine.call("a", "A", "go", "()LA;", []) for _ in range(3)],
                         [("returned", None), ("returned", ("ref", 1)), ("returned", ("ref", 2))])

    def test_machines_do_not_touch_one_another(self):
        world = self.world([("getstatic", "A", "s", "I"), I, ("putstatic", "A", "s", "I"), ("ireturn",)], "()I")
        one, other = Machine(world), Machine(world)
        self.assertEqual([one.call("a", "A", "go", "()I", [])[1] for _ in range(2)], [0, 5])
        self.assertEqual(other.call("a", "A", "go", "()I", []), ("returned", 0))


class Told(MachineCase):
    def test_references(self):
        machine = self.ends(new("A"))
        for ask in (machine.sort_of, machine.is_raw, machine.held):
            for thing in odd_things() + [None, 0, 1, "ref", (), ("ref",), ("ref", 0), ("ref", 2), ("ref", -1), ("ref", True), ("ref", "1"),
                                         ["ref", 1], ("ref", None), ("int", 1), ("ref", 1, 2), ("ref", 10 ** 30)]:
                self.raises(NoCall, {"why": "reference"}, ask, thing)

    def test_what_is_told_is_new(self):
        machine, reference = self.kind_of(("a", "A"), new("A"))
        machine.held(reference).clear()
        self.assertEqual(len(machine.held(reference)), 10)
        machine.statics("a", "A").clear()
        self.assertEqual(len(machine.statics("a", "A")), 4)
        machine, reference = self.kind_of(("base", "[I"), [I, ("newarray", "I")])
        machine.held(reference).clear()
        self.assertEqual(machine.held(reference), [0] * 5)

    def test_an_empty_text_and_an_empty_object(self):
        machine, reference = self.kind_of(("base", "String"), [("string", "")])
        self.assertEqual(machine.held(reference), "")
        machine, reference = self.kind_of(("a", "C"), new("C"))
        self.assertEqual(machine.held(reference), {})

    def test_items(self):
        rows = [("iconst", 2), ("anewarray", "A"), ("dup",), ("iconst", 1), *new("A"), ("aastore",)]
        machine, reference = self.kind_of(("a", "[LA;"), rows)
        self.assertEqual(machine.held(reference), [None, ("ref", 2)])

    def test_statics_of_base_classes(self):
        machine = Machine(self.world())
        self.assertEqual(machine.statics("a", "String"), {})
        self.assertEqual(machine.statics("a", "B"), {})

    def test_behind_calls_that_were_wrong_or_open(self):
        for rows in ([("iadd",)], [("goto", 4)] + [("nop",)] * 4):
            machine, found = self.run_rows([*new("A"), ("dup",), I, ("putfield", "A", "f", "I"), I, ("putstatic", "A", "s", "I"), ("pop",),
                                            ("iadd",) if len(rows) == 1 else ("goto", 9)])
            self.assertIn(found[0], ("wrong", "open"))
            self.assertEqual(machine.held(("ref", 1))["a", "A", "f", "I"], 5)
            self.assertEqual(machine.statics("a", "A")["a", "A", "s", "I"], 5)
            self.assertEqual((machine.sort_of(("ref", 1)), machine.is_raw(("ref", 1))), (("a", "A"), False))
            self.assertTrue(machine.stands(("a", "A"), ("object", "A"), ("ref", 1)))


class Seen(MachineCase):
    def test_all_kinds_of_places(self):
        rows = [J, ("lstore", 1), ("new", "A"), ("astore", 3), N, I, ("return",)]
        seen = Machine(self.world(rows, "(I)V", places=5, stack=4)).seen("a", "A", "go", "(I)V", [3])
        key = (("a", "A"), "go", "(I)V")
        unset = "unset"
        self.assertEqual(seen, [
            (*key, 0, [("int", 3), unset, unset, unset, unset], []),
            (*key, 1, [("int", 3), unset, unset, unset, unset], [("long", 6), "half"]),
            (*key, 2, [("int", 3), ("long", 6), "half", unset, unset], []),
            (*key, 3, [("int", 3), ("long", 6), "half", unset, unset], [("ref", 1)]),
            (*key, 4, [("int", 3), ("long", 6), "half", ("ref", 1), unset], []),
            (*key, 5, [("int", 3), ("long", 6), "half", ("ref", 1), unset], [None]),
            (*key, 6, [("int", 3), ("long", 6), "half", ("ref", 1), unset], [None, ("int", 5)])])

    def test_the_machine_is_not_changed(self):
        rows = [*new("A"), ("putstatic", "A", "u", "LA;"), ("getstatic", "A", "u", "LA;"), I, ("putfield", "A", "f", "I"), ("string", "x"), ("pop",),
                ("getstatic", "D", "s", "I"), ("pop",), ("return",)]
        more = {"D": file("D", fields=[("s", "I", ("public", "static"), 7)])}
        machine = Machine(self.world(rows, more=more))
        first = machine.seen("a", "A", "go", "()V", [])
        self.assertEqual(machine.seen("a", "A", "go", "()V", []), first)
        self.raises(NoCall, {"why": "reference"}, machine.sort_of, ("ref", 1))
        self.assertEqual(machine.statics("a", "A")["a", "A", "u", "LA;"], None)
        self.assertEqual(machine.statics("a", "D"), {("a", "D", "s", "I"): 0})
        machine.call("a", "A", "go", "()V", [])
        self.assertEqual(machine.held(("ref", 1))["a", "A", "f", "I"], 5)
        numbers = {place for one in machine.seen("a", "A", "go", "()V", []) for place in one[5] if isinstance(place, tuple) and place[0] == "ref"}
        self.assertEqual(numbers, {("ref", 3), ("ref", 2)})
        self.assertEqual(machine.statics("a", "A")["a", "A", "u", "LA;"], ("ref", 1))

    def test_objects_of_the_copy_are_copies(self):
        rows = [("getstatic", "A", "u", "LA;"), ("dup",), ("getfield", "A", "f", "I"), ("iconst", 1), ("iadd",), ("putfield", "A", "f", "I"), ("iconst", 3),
                ("newarray", "I"), ("pop",), ("getstatic", "A", "u", "LA;"), ("monitorenter",), ("return",)]
        methods = [made("set", [*new("A"), ("putstatic", "A", "u", "LA;"), ("return",)]),
                   made("out", [("getstatic", "A", "u", "LA;"), ("monitorexit",), ("return",)])]
        machine = Machine(self.world(rows, methods=methods))
        machine.call("a", "A", "set", "()V", [])
        machine.seen("a", "A", "go", "()V", [])
        self.assertEqual(machine.held(("ref", 1))["a", "A", "f", "I"], 0)
        self.assertEqual(machine.call("a", "A", "out", "()V", [])[0], "thrown")

    def test_the_copy_has_all_that_the_machine_has(self):
        make = [*new("A"), ("dup",), I, ("putfield", "A", "f", "I"), ("putstatic", "A", "u", "LA;"), ("getstatic", "A", "u", "LA;"), ("monitorenter",),
                I, ("putstatic", "A", "s", "I"), ("iconst", 7), ("newarray", "I"), ("dup",), ("iconst", 2), I, ("iastore",), ("areturn",)]
        look = [("getstatic", "A", "u", "LA;"), ("getfield", "A", "f", "I"), ("getstatic", "A", "s", "I"), ("aload", 0), ("arraylength",), ("aload", 0),
                ("iconst", 2), ("iaload",), ("getstatic", "A", "u", "LA;"), ("monitorexit",), ("string", "x"), ("return",)]
        clinit = ("<clinit>", "()V", ("static",), body([("string", "x"), ("pop",), ("return",)]))
        machine = Machine(self.world(methods=[made("make", make, "()[I"), made("look", look, "([I)V"), clinit]))
        _, array = machine.call("a", "A", "make", "()[I", [])
        seen = machine.seen("a", "A", "look", "([I)V", [array])
        self.assertEqual([one[1] for one in seen], ["look"] * 12)
        self.assertEqual(seen[-1][5], [("int", 5), ("int", 5), ("int", 7), ("int", 5), ("ref", 1)])

    def test_arrays_of_the_copy_are_copies(self):
        methods = [made("set", [("iconst", 1), ("newarray", "I"), ("areturn",)], "()[I"),
                   made("put", [("aload", 0), ("iconst", 0), I, ("iastore",), ("return",)], "([I)V")]
        machine = Machine(self.world(methods=methods))
        _, array = machine.call("a", "A", "set", "()[I", [])
        machine.seen("a", "A", "put", "([I)V", [array])
        self.assertEqual(machine.held(array), [0])

    def test_a_call_that_is_wrong_or_open_does_not_stop_the_machine(self):
        machine = Machine(self.world([("iadd",)], methods=[made("loop", [("goto", 0)])]))
        self.assertEqual(len(machine.seen("a", "A", "go", "()V", [])), 1)
        self.assertEqual(len(machine.seen("a", "A", "loop", "()V", [], steps=7)), 7)
        self.assertEqual(machine.call("a", "A", "go", "()V", [])[:2], ("wrong", "few"))

    def test_five_hundred(self):
        machine = Machine(self.world([("goto", 0)]))
        for steps, many in ((499, 499), (500, 500), (501, 500), (3000, 500)):
            self.assertEqual(len(machine.seen("a", "A", "go", "()V", [], steps=steps)), many)

    def test_no_row_is_no_step(self):
        self.assertEqual(len(Machine(self.world([("nop",)])).seen("a", "A", "go", "()V", [])), 1)

    def test_lists_that_are_changed(self):
        machine = Machine(self.world())
        told = machine.seen("a", "A", "go", "()V", [])
        told[0][4].clear()
        self.assertEqual(len(machine.seen("a", "A", "go", "()V", [])[0][4]), 20)

    def test_by_names(self):
        machine = Machine(world=self.world([("iload", 0), ("ireturn",)], "(I)I"))
        told = {"arguments": [4], "descriptor": "(I)I", "method": "go", "name": "A", "loader": "a", "steps": 9}
        self.assertEqual(machine.call(**told), ("returned", 4))
        self.assertEqual(len(machine.seen(**told)), 2)
        self.assertEqual(machine.statics(name="C", loader="a"), {})
        self.assertTrue(machine.stands(place=None, entry="null", cls=("a", "A")))
        machine = self.ends(new("A"))
        for ask, expected in ((machine.sort_of, ("a", "A")), (machine.is_raw, False)):
            self.assertEqual(ask(reference=("ref", 1)), expected)
        self.assertEqual(len(machine.held(reference=("ref", 1))), 10)


class Stands(MachineCase):
    ENTRIES = ["top", "int", "long", "null", "this", ("new", 0), ("new", 65535), ("object", "A"), ("object", "B"), ("object", "I"), ("object", "C"),
               ("object", "Object"), ("object", "[I"), ("object", "[LA;"), ("object", "Gone"), ("object", "String"), ("object", "[LObject;")]

    def setUp(self):
        rows = [*new("B"), ("pop",), ("new", "A"), ("pop",), I, ("newarray", "I"), ("pop",), I, ("anewarray", "B"), ("pop",), ("string", "x")]
        self.machine = self.ends(rows)

    def stands(self, place, *right):
        for entry in self.ENTRIES:
            self.assertIs(self.machine.stands(("a", "A"), entry, place), entry in right, (entry, place))

    def test_each_place(self):
        self.stands("unset", "top")
        self.stands("half", "top")
        for number in (0, LOW, HIGH):
            self.stands(("int", number), "top", "int")
        for number in (0, LOWEST, HIGHEST):
            self.stands(("long", number), "top", "long")
        objects = [entry for entry in self.ENTRIES if isinstance(entry, tuple) and entry[0] == "object"]
        self.stands(None, "top", "null", *objects)
        self.stands(("ref", 1), "top", *[("object", name) for name in ("A", "B", "I", "Object", "Gone")])
        self.stands(("ref", 2), "top", "this", ("new", 0), ("new", 65535))
        self.stands(("ref", 3), "top", *[("object", name) for name in ("I", "Object", "Gone", "[I")])
        self.stands(("ref", 4), "top", *[("object", name) for name in ("I", "Object", "Gone", "[LA;", "[LObject;")])
        self.stands(("ref", 5), "top", *[("object", name) for name in ("I", "Object", "Gone", "String")])

    def test_no_places(self):
        for place in odd_things() + [0, 1, "", "int", "top", (), ("int",), ("int", LOW - 1), ("int", HIGH + 1), ("long", HIGHEST + 1), ("int", True),
                                     ("ref", 6), ("ref", 0), ("ref", -1), ("ref", True), ["int", 1], ["ref", 1], ("half",), ("unset",), ("int", 1, 1),
                                     ("float", 1), [], ("ref", None)]:
            self.stands(place)

    def test_no_entries(self):
        for entry in odd_things() + [None, 0, "", "half", "unset", ("object",), ("object", "LA;"), ("object", ""), ("new", -1), ("new", 65536),
                                     ("new", True), ["object", "A"], ("this",), (), [], ("object", "A", 1), ("null",)]:
            for place in (None, "unset", ("int", 0), ("ref", 1), ("ref", 2)):
                self.assertIs(self.machine.stands(("a", "A"), entry, place), False, entry)

    def test_seen_by_a_class(self):
        world = World({"a": {"A": file("A", methods=[init(), made("go", [*new("A"), ("areturn",)], "()LA;")])}, "b": {"A": file("A"), "T": file("T")},
                       "c": {"T": file("T"), "A": "a"}, "d": {"T": file("T", "Gone")}})
        machine = Machine(world)
        _, reference = machine.call("a", "A", "go", "()LA;", [])
        for cls, right in ((("a", "A"), True), (("b", "T"), False), (("c", "T"), True), (("d", "T"), True)):
            self.assertIs(machine.stands(cls, ("object", "A"), reference), right)

    def test_classes_that_are_not_defined(self):
        for cls in (("a", "Gone"), ("b", "A"), None, "A", ("a", "[I"), ["a", "A"]):
            self.raises(NotDefined, {"cls": cls}, self.machine.stands, cls, "what", "what")


class Facts(ErrorCase):
    """[10.18] and [10.19]: classes that are put together by chance, and are right."""

    def statements(self):
        """Parts that leave the stack as it was, for locals 1 and 2 (references), 3 and 4 (ints) and 5 (a long)."""
        parts = [[("iconst", number), ("istore", at)] for number in (0, 1, 2, -1) for at in (3, 4)]
        parts += [[("iload", 3), ("iload", 4), (word,), ("istore", 3)] for word in ("iadd", "idiv", "ishl")]
        parts += [[("lload", 5), ("lload", 5), (word,), ("lstore", 5)] for word in ("ladd", "lrem")]
        parts += [[("iload", 3), ("ifeq", None)], [("aload", 1), ("ifnull", None)], [("goto", None)], [("iinc", 4, 1)]] * 2
        parts += [[("aconst_null",), ("astore", 1)], [("aload", 1), ("astore", 2)], [("aload", 2), ("astore", 1)], [("string", "x"), ("astore", 1)],
                  [("class", "D"), ("astore", 2)], [("aload", 1), ("athrow",)], [("aload", 2), ("monitorenter",)], [("aload", 2), ("monitorexit",)],
                  [("iload", 4), ("newarray", "I"), ("astore", 1)], [("iconst", 2), ("anewarray", "D"), ("astore", 2)],
                  [("aload", 2), ("iload", 3), ("aload", 1), ("aastore",)], [("aload", 1), ("iload", 3), ("iload", 4), ("iastore",)],
                  [("aload", 2), ("iload", 3), ("aaload",), ("astore", 1)], [("aload", 1), ("iload", 3), ("iaload",), ("istore", 3)]]
        for name in ("D", "E", "Error"):
            parts += [[*new(name), ("astore", at)] for at in (1, 2)]
            parts += [[("aload", 1), ("checkcast", name), ("astore", 1)], [("aload", 2), ("instanceof", name), ("istore", 3)]]
        parts += [[("new", "D"), ("astore", 1)], [("aload", 1), ("invokespecial", "D", "<init>", "()V")],
                  [("aload", 1), ("getfield", "D", "r", "LI;"), ("astore", 2)], [("aload", 1), ("aload", 2), ("putfield", "D", "r", "LI;")],
                  [("getstatic", "D", "s", "I"), ("istore", 3)], [("iload", 4), ("putstatic", "D", "s", "I")],
                  [("aload", 1), ("invokeinterface", "I", "i", "()LD;"), ("astore", 2)], [("aload", 1), ("aload", 2), ("invokevirtual", "D", "v", "(LI;)LI;"), ("astore", 1)],
                  [("iload", 3), ("invokestatic", "E", "t", "(I)J"), ("lstore", 5)], [("aload", 2), ("invokevirtual", "Object", "hashCode", "()I"), ("istore", 4)],
                  [("aload", 1), ("invokevirtual", "D", "none", "()V")], [("aload", 1)], [("pop",)], [("iload", 3)], [("dup",)], [("astore", 2)], [("istore", 4)]]
        return parts

    def method(self, source, descriptor, static):
        """The rows and handlers of a method, chosen by chance."""
        parts = [[("aconst_null",), ("astore", 2)], [("iconst", source.choice([0, 1, 2])), ("istore", 3)], [("iconst", 1), ("istore", 4)],
                 [("lconst", 7), ("lstore", 5)]]
        if static or descriptor[1] == ")":
            parts.insert(0, [("aconst_null",), ("astore", 1)])
        many = len(parts)
        parts += [source.choice(self.statements()) for _ in range(source.choice([1, 2, 4, 6]))]
        give = {"J": [("lload", 5), ("lreturn",)], "I": [("iload", 3), ("ireturn",)]}.get(descriptor[-1], [("aload", 1), ("areturn",)])
        parts.append([("return",)] if descriptor[-1] == "V" else give)
        begins = [sum(len(part) for part in parts[:k]) for k in range(len(parts) + 1)]
        rows = [(row[0], source.choice(begins[many:-1])) if row[-1] is None else row for part in parts for row in part]
        handlers = []
        if source.random() < 0.4:
            handlers = [(begins[many], begins[-1], begins[-1], source.choice([None, "RuntimeException"]))]
            last = [("astore", source.choice([1, 2])), ("aconst_null",), ("astore", 1)]
            rows += last + ([("return",)] if descriptor[-1] == "V" else give)
        return rows, handlers

    def base(self):
        """D names I, and E is below D; all methods give something plain."""
        def plain(name, descriptor, flags=("public",), own=()):
            give = {"J": [("lconst", 1), ("lreturn",)], "V": [("return",)]}.get(descriptor[-1], [("aconst_null",), ("areturn",)])
            return (name, descriptor, flags, body([*own, *give], 8, 8))
        fields = [("r", "LI;", (), None), ("s", "I", ("static",), 3)]
        return {
            "I": face("I", methods=[plain("i", "()LD;")]),
            "D": file("D", "Object", ["I"], fields=fields, methods=[init(), plain("v", "(LI;)LI;"), plain("c", "()V", ("static",)),
                                                                    ("<clinit>", "()V", ("static",), body([("return",)], 8, 8))]),
            "E": file("E", "D", methods=[init("D"), plain("v", "(LI;)LI;"), plain("i", "()LD;"), plain("t", "(I)J", ("public", "static"))])}

    def with_method(self, classes, source, cls, name, descriptor, static):
        """The classes with one method put in the place of another one, if it is right."""
        rows, handlers = self.method(source, descriptor, static)
        flags = ("public", "static") if static else ("public",)
        frames = []
        for _ in range(2):
            told = classes[cls]
            others = [one for one in told.methods if one[:2] != (name, descriptor)]
            code = Code(8, 8, rows, handlers, frames)
            other = file(cls, told.parent, told.interfaces, told.flags, told.fields, [*others, (name, descriptor, flags, code)])
            world = World({"a": {**classes, cls: other}})
            try:
                frames = frames_found(world, ("a", cls), name, descriptor)
            except NoFrames:
                return classes
        return {**classes, cls: other} if judged(world, ("a", cls)) is None else classes

    METHODS = [("D", "v", "(LI;)LI;", False), ("E", "v", "(LI;)LI;", False), ("E", "i", "()LD;", False), ("I", "i", "()LD;", False),
               ("E", "t", "(I)J", True), ("D", "go", "()LI;", True), ("D", "run", "()V", True), ("E", "go", "()LI;", True)]

    def worlds(self, seed, many):
        source = random.Random(seed)
        for _ in range(many):
            classes = self.base()
            for told in self.METHODS * 4:
                classes = self.with_method(classes, source, *told)
            yield World({"a": classes})

    def calls(self, world):
        for cls in ("D", "E"):
            for name, descriptor, flags, _ in world.file_of(("a", cls)).methods:
                if name in ("go", "run", "t"):
                    yield ("a", cls, name, descriptor, [2] if name == "t" else [])

    def test_no_call_of_a_right_world_is_wrong(self):
        outcomes = {}
        for world in self.worlds(1, 25):
            self.assertFalse(can_quarrel(world))
            for cls in world.classes():
                self.assertIsNone(loading_error(world, cls))
                self.assertIsNone(judged(world, cls))
            for call in self.calls(world):
                machine = Machine(world)
                found = machine.call(*call, steps=400)
                outcomes[found[0]] = outcomes.get(found[0], 0) + 1
                self.assertNotEqual(found[0], "wrong", (found, call))
                if found[0] != "open":
                    self.assertEqual(Machine(world).call(*call, steps=4000), found)
        self.assertTrue(outcomes["returned"] > 10 and outcomes["thrown"] > 10)

    def test_places_stand_as_the_frames_tell(self):
        many = 0
        for world in self.worlds(2, 10):
            for call in self.calls(world):
                for steps, one in enumerate(Machine(world).seen(*call, steps=25)):
                    machine = Machine(world)
                    if steps > 0:
                        self.assertEqual(machine.call(*call, steps=steps), ("open", "steps"))
                    self.look(machine, world, *one)
                    many += 1
        self.assertGreater(many, 200)

    def look(self, machine, world, cls, name, descriptor, index, places, stack):
        told, told_stack, _ = frames_of(world, cls, name, descriptor)[index]
        self.assertEqual(len(told), len(places))
        spread = [part for entry in told_stack for part in ([entry, "top"] if entry == "long" else [entry])]
        self.assertEqual(len(spread), len(stack))
        for entry, place in [*zip(told, places), *zip(spread, stack)]:
            self.assertTrue(machine.stands(cls, entry, place), (cls, name, index, entry, place))


if __name__ == "__main__":
    unittest.main()
