"""The machine's calls, what is thrown, and how classes begin: [10.5] to [10.8], [10.12], [10.15]."""

import unittest

from helpers import ErrorCase, face, file
from machining import MachineCase, body, init, made, new
from typegate.classes import Uncut
from typegate.machine import Machine
from typegate.worlds import World

MISSING = "NoClassDefFoundError"
CHANGE = "IncompatibleClassChangeError"
NULL = "NullPointerException"
I, J, N = ("iconst", 5), ("lconst", 6), ("aconst_null",)
RAW = ("new", "A")
PUBLIC = ("public",)
STATIC = ("public", "static")


class Static(MachineCase):
    def test_arguments_and_results(self):
        methods = [made("m", [("lload", 1), ("l2i",), ("iload", 0), ("isub",), ("ireturn",)], "(IJLA;)I")]
        self.gives(1, [I, J, N, ("invokestatic", "A", "m", "(IJLA;)I")], methods=methods)
        methods = [made("m", [("lload", 0), ("lreturn",)], "(J)J")]
        self.gives(6, [J, ("invokestatic", "A", "m", "(J)J")], result="J", methods=methods)
        methods = [made("m", [("aload", 0), ("areturn",)], "(LI;)LI;")]
        self.kind_of(("a", "B"), [*new("B"), ("invokestatic", "A", "m", "(LI;)LI;")], methods=methods)
        self.ends([("invokestatic", "A", "m", "()V")], methods=[made("m", [("return",)])])

    def test_what_they_take(self):
        row = ("invokestatic", "A", "m", "(IJLA;)V")
        methods = [made("m", [("return",)], "(IJLA;)V")]
        for put, word in (([], "few"), ([J, N], "few"), ([N, J, N], "sort"), ([I, I, I, N], "sort"), ([I, J, I], "sort"),
                          ([I, J, RAW], "raw"), ([I, J, *new("C")], "kind"), ([N, J, RAW], "sort"), ([I, N, N, RAW], "sort")):
            self.wrong(word, put + [row], methods=methods)
        self.ends([I, J, *new("B"), row], methods=methods)

    def test_kind_goes_by_the_place(self):
        methods = [made("m", [("return",)], "(LA;LA;)V")]
        row = ("invokestatic", "A", "m", "(LA;LA;)V")
        self.wrong("kind", [*new("C"), RAW, row], methods=methods)
        self.wrong("raw", [RAW, *new("C"), row], methods=methods)
        self.wrong("sort", [I, *new("C"), row], methods=methods)

    def test_what_is_asked(self):
        self.wrong("few", [("invokestatic", "Gone", "m", "(I)V")])
        self.throws(MISSING, [N, ("invokestatic", "Gone", "m", "(I)V")])
        self.throws("NoSuchMethodError", [N, ("invokestatic", "A", "m", "(I)V")])
        self.throws(CHANGE, [("invokestatic", "I", "m", "()V")])
        self.throws("IllegalAccessError", [("invokestatic", "p/Far", "m", "()V")])

    def test_of_interfaces(self):
        more = {"K": face("K", methods=[made("m", [I, ("ireturn",)], "()I")])}
        self.gives(5, [("invokestatic_i", "K", "m", "()I")], more=more)

    def test_full(self):
        methods = [made("m", [J, ("lreturn",)], "()J")]
        self.wrong("full", [("invokestatic", "A", "m", "()J")], methods=methods, stack=1)
        self.ends([("invokestatic", "A", "m", "()J")], methods=methods, stack=2)
        # Behind what the called method throws, and behind what is wrong there.
        methods = [made("m", [N, ("athrow",)], "()J")]
        self.throws(NULL, [("invokestatic", "A", "m", "()J")], methods=methods, stack=1)
        methods = [made("m", [("iadd",)], "()J")]
        _, found = self.run_rows([("invokestatic", "A", "m", "()J")], methods=methods, stack=1)
        self.assertEqual(found, ("wrong", "few", ("a", "A"), "m", "()J", 0))

    def test_recursion(self):
        rows = [("iload", 0), ("ifne", 4), ("iconst", 0), ("ireturn",), ("iload", 0), ("iconst", 1), ("isub",),
                ("invokestatic", "A", "sum", "(I)I"), ("iload", 0), ("iadd",), ("ireturn",)]
        self.gives(210, [("iconst", 20), ("invokestatic", "A", "sum", "(I)I")], methods=[made("sum", rows, "(I)I")])

    def test_many_calls_one_behind_the_other(self):
        rows = [("iconst", 0), ("istore", 1), ("invokestatic", "A", "m", "()V"), ("iinc", 1, 1), ("iload", 1), ("iconst", 200), ("if_icmplt", 2),
                ("return",)]
        self.assertEqual(self.run_rows(rows, methods=[made("m", [("return",)])])[1], ("returned",))
        rows[2:3] = [N, ("invokestatic", "A", "m", "(LA;)V"), ("nop",)]
        rows[8] = ("if_icmplt", 2)
        handlers = [(2, 4, 9, None)]
        rows[9:] = [("pop",), ("iinc", 1, 1), ("iload", 1), ("iconst", 200), ("if_icmplt", 2), ("return",)]
        methods = [made("m", [("aload", 0), ("athrow",)], "(LA;)V")]
        self.assertEqual(self.run_rows(rows, methods=methods, handlers=handlers)[1], ("returned",))

    def test_just_room_for_the_arguments(self):
        methods = [made("m", [("lload", 1), ("lreturn",)], "(IJ)J", places=3)]
        self.gives(6, [I, J, ("invokestatic", "A", "m", "(IJ)J")], result="J", methods=methods)

    def test_an_uncut_method(self):
        methods = [("u", "(J)V", STATIC, Uncut("map", 0))]
        _, found = self.run_rows([J, ("invokestatic", "A", "u", "(J)V")], methods=methods)
        self.assertEqual(found, ("wrong", "jump", ("a", "A"), "u", "(J)V", 0))

    def test_arguments_without_room(self):
        """Told at index 0, of a code whose places have been made fewer since its class was."""
        rows = [("nop",), ("return",)]
        told = body(rows, places=2)
        world = self.world([J, ("invokestatic", "A", "m", "(J)V"), ("return",)], methods=[("m", "(J)V", STATIC, told)])
        told.places = 1
        self.assertEqual(Machine(world).call("a", "A", "go", "()V", []), ("wrong", "local", ("a", "A"), "m", "(J)V", 0))


class Virtual(MachineCase):
    def with_method(self, *rows, flags=PUBLIC, descriptor="()I", name="m"):
        return [made(name, rows, descriptor, flags)]

    def test_the_object_is_the_first_local(self):
        methods = self.with_method(("aload", 0), ("getfield", "A", "f", "I"), ("ireturn",))
        rows = [*new("A"), ("dup",), I, ("putfield", "A", "f", "I"), ("invokevirtual", "A", "m", "()I")]
        self.gives(5, rows, methods=methods)

    def test_null(self):
        methods = self.with_method(I, ("ireturn",), descriptor="(I)I")
        self.throws(NULL, [N, I, ("invokevirtual", "A", "m", "(I)I")], methods=methods)
        self.wrong("sort", [N, N, ("invokevirtual", "A", "m", "(I)I")], methods=methods)
        self.throws("NoSuchMethodError", [N, N, ("invokevirtual", "A", "none", "(I)I")], methods=methods)

    def test_what_it_takes(self):
        methods = self.with_method(I, ("ireturn",), descriptor="(LA;)I")
        row = ("invokevirtual", "A", "m", "(LA;)I")
        for put, word in (([I, N], "sort"), ([RAW, N], "raw"), ([*new("C"), N], "kind"), ([N, I], "sort"), ([N, RAW], "raw"),
                          ([N, *new("C")], "kind"), ([N], "few"), ([], "few"), ([*new("C"), I], "kind"), ([RAW, I], "raw"),
                          ([I, ("newarray", "I"), N], "kind")):
            self.wrong(word, put + [row], methods=methods)

    def test_selection(self):
        methods = self.with_method(I, ("ireturn",))
        below = {"D": file("D", "A", methods=[init("A"), made("m", [("iconst", 7), ("ireturn",)], "()I", PUBLIC)]),
                 "E": file("E", "A", flags=["public"], methods=[init("A"), ("m", "()I", ("public", "abstract"), None)])}
        for name, expected in (("A", 5), ("B", 5), ("D", 7)):
            self.gives(expected, [*new(name), ("invokevirtual", "A", "m", "()I")], methods=methods, more=below)
        self.throws("AbstractMethodError", [*new("E"), ("invokevirtual", "A", "m", "()I")], methods=methods, more=below)

    def test_interfaces(self):
        more = {"K": face("K", methods=[made("m", [I, ("ireturn",)], "()I", PUBLIC), ("n", "()I", ("public", "abstract"), None)]),
                "D": file("D", "Object", ["K"], methods=[init()])}
        self.gives(5, [*new("D"), ("invokeinterface", "K", "m", "()I")], more=more)
        self.gives(5, [*new("D"), ("invokevirtual", "D", "m", "()I")], more=more)
        self.throws("AbstractMethodError", [*new("D"), ("invokeinterface", "K", "n", "()I")], more=more)
        # Any object fits an interface, and is only then looked at.
        for put in (new("C"), [("string", "x")], [I, ("newarray", "I")]):
            self.throws(CHANGE, [*put, ("invokeinterface", "K", "m", "()I")], more=more)
        self.throws(NULL, [N, ("invokeinterface", "K", "m", "()I")], more=more)
        self.wrong("raw", [("new", "D"), ("invokeinterface", "K", "m", "()I")], more=more)
        self.wrong("sort", [I, ("invokeinterface", "K", "m", "()I")], more=more)

    def test_special_ones(self):
        above = {"P": file("P", methods=[init(), made("m", [("iconst", 1), ("ireturn",)], "()I", PUBLIC)]),
                 "D": file("D", "P", methods=[init("P"), made("m", [("iconst", 2), ("ireturn",)], "()I", PUBLIC),
                                              made("up", [("aload", 0), ("invokespecial", "P", "m", "()I"), ("ireturn",)], "()I", PUBLIC),
                                              made("own", [("aload", 0), ("invokespecial", "D", "m", "()I"), ("ireturn",)], "()I", PUBLIC)])}
        self.gives(1, [*new("D"), ("invokevirtual", "D", "up", "()I")], more=above)
        self.gives(2, [*new("D"), ("invokevirtual", "D", "own", "()I")], more=above)
        self.wrong("kind", [*new("C"), ("invokespecial", "D", "m", "()I")], more=above)

    def test_special_ones_of_interfaces(self):
        more = {"K": face("K", methods=[made("m", [I, ("ireturn",)], "()I", PUBLIC)]),
                "D": file("D", "Object", ["K"], methods=[init(), made("m", [("iconst", 2), ("ireturn",)], "()I", PUBLIC), made(
                    "up", [("aload", 0), ("invokespecial_i", "K", "m", "()I"), ("ireturn",)], "()I", PUBLIC)])}
        self.gives(5, [*new("D"), ("invokevirtual", "D", "up", "()I")], more=more)

    def test_native_ones(self):
        methods = [("n", "()V", ("public", "native"), None), ("s", "()V", ("public", "static", "native"), None)]
        self.throws("UnsatisfiedLinkError", [*new("A"), ("invokevirtual", "A", "n", "()V")], methods=methods)
        self.throws("UnsatisfiedLinkError", [("invokestatic", "A", "s", "()V")], methods=methods)
        self.throws(NULL, [N, ("invokevirtual", "A", "n", "()V")], methods=methods)

    def test_native_ones_of_another_class_of_base(self):
        world = World({"base": {"N": file("N", methods=[("n", "()V", ("public", "static", "native"), None)])},
                       "a": {"N": "base", "A": file("A", methods=[made("go", [("invokestatic", "N", "n", "()V"), ("return",)])])}})
        machine = Machine(world)
        self.assertEqual(machine.sort_of(machine.call("a", "A", "go", "()V", [])[1]), ("base", "UnsatisfiedLinkError"))


class Native(MachineCase):
    def test_hash_codes(self):
        self.gives(1, [*new("A"), ("invokevirtual", "Object", "hashCode", "()I")])
        self.gives(2, [*new("A"), ("pop",), *new("A"), ("invokevirtual", "A", "hashCode", "()I")])
        self.gives(1, [I, ("newarray", "I"), ("invokevirtual", "[I", "hashCode", "()I")])
        self.wrong("raw", [RAW, ("invokevirtual", "Object", "hashCode", "()I")])
        self.throws(NULL, [N, ("invokevirtual", "Object", "hashCode", "()I")])

    def test_what_they_leave(self):
        for row, put, left in ((("invokevirtual", "Object", "hashCode", "()I"), new("Copy"), [("int", 1)]),
                               (("invokevirtual", "Object", "equals", "(LObject;)Z"), [*new("Copy"), N], [("int", 0)]),
                               (("invokevirtual", "[I", "clone", "()LObject;"), [I, ("newarray", "I")], [("ref", 2)]),
                               (("invokespecial", "Object", "<init>", "()V"), [("new", "Object")], [])):
            seen = Machine(self.world([J, *put, row, ("return",)])).seen("a", "A", "go", "()V", [])
            self.assertEqual(seen[-1][5], [("long", 6), "half", *left])

    def test_equality(self):
        row = ("invokevirtual", "Object", "equals", "(LObject;)Z")
        for put, expected in (([*new("A"), ("dup",)], 1), ([*new("A"), *new("A")], 0), ([*new("A"), N], 0), ([("string", "x")] * 2, 1)):
            self.gives(expected, put + [row])
        self.wrong("raw", [*new("A"), RAW, row])

    def test_copies(self):
        machine, reference = self.kind_of(("a", "Copy"), [
            *new("Copy"), ("dup",), I, ("putfield", "Copy", "n", "I"), ("invokestatic", "Copy", "copy", "(LCopy;)LObject;")], more={
                "Copy": file("Copy", "Object", ["Cloneable"], fields=[("n", "I", (), None)], methods=[
                    init(), made("copy", [("aload", 0), ("invokevirtual", "Object", "clone", "()LObject;"), ("areturn",)], "(LCopy;)LObject;")])})
        self.assertEqual(reference, ("ref", 2))
        self.assertEqual(machine.held(reference), {("a", "Copy", "n", "I"): 5})
        self.assertIs(machine.is_raw(reference), False)

    def test_copies_of_arrays(self):
        rows = [("iconst", 2), ("newarray", "I"), ("dup",), ("astore", 1), ("invokevirtual", "[I", "clone", "()LObject;"), ("checkcast", "[I"),
                ("astore", 2), ("aload", 1), ("iconst", 0), I, ("iastore",), ("aload", 2)]
        machine, reference = self.kind_of(("base", "[I"), rows)
        self.assertEqual((machine.held(("ref", 1)), machine.held(reference)), ([5, 0], [0, 0]))

    def test_copies_that_are_not_made(self):
        self.throws("CloneNotSupportedException", [*new("A"), ("invokevirtual", "A", "clone", "()LObject;")])
        self.throws("IllegalAccessError", [*new("C"), ("invokevirtual", "C", "clone", "()LObject;")])

    def test_monitors_are_not_copied(self):
        rows = [("iconst", 2), ("newarray", "I"), ("dup",), ("monitorenter",), ("invokevirtual", "[I", "clone", "()LObject;"), ("monitorexit",)]
        self.throws("IllegalMonitorStateException", rows)

    def test_inits_of_base_classes(self):
        for name in ("Object", "Error", "String", "Class", "NullPointerException"):
            machine, reference = self.kind_of(("base", name), new(name))
            self.assertIs(machine.is_raw(reference), False)
            self.assertEqual(machine.held(reference), {})


class Inits(MachineCase):
    def test_what_they_take(self):
        row = ("invokespecial", "A", "<init>", "()V")
        for put, word in (([I], "sort"), (new("A"), "raw"), ([("string", "x")], "raw"), ([("new", "C")], "kind"), ([("new", "B")], "kind"),
                          ([], "few")):
            self.wrong(word, put + [row])
        self.throws(NULL, [N, row])
        self.throws("NoSuchMethodError", [N, N, ("invokespecial", "A", "<init>", "(LA;)V")])

    def test_arguments(self):
        more = {"D": file("D", fields=[("x", "I", (), None)], methods=[init(descriptor="(I)V", more=[
            ("aload", 0), ("iload", 1), ("putfield", "D", "x", "I")])])}
        rows = [("new", "D"), ("dup",), I, ("invokespecial", "D", "<init>", "(I)V"), ("getfield", "D", "x", "I")]
        self.gives(5, rows, more=more)
        self.wrong("sort", [("new", "D"), N, ("invokespecial", "D", "<init>", "(I)V")], more=more)
        self.wrong("raw", [*new("A"), N, ("invokespecial", "D", "<init>", "(I)V")], more=more)
        self.throws(NULL, [N, I, ("invokespecial", "D", "<init>", "(I)V")], more=more)

    def in_init(self, rows, **more):
        told = {"P": file("P", "Q", methods=[init("Q")]), "Q": file("Q", methods=[init()]),
                "D": file("D", "P", methods=[("<init>", "()V", PUBLIC, body([*rows, ("return",)])), init("P", "(I)V")])}
        machine = Machine(self.world([*new("D"), ("pop",), ("return",)], more=told))
        return machine, machine.call("a", "A", "go", "()V", [])

    def test_of_the_object_of_this_frame(self):
        own = ("aload", 0)
        for name, descriptor, put in (("P", "()V", []), ("Q", "()V", []), ("Object", "()V", []), ("D", "(I)V", [I])):
            _, found = self.in_init([own, *put, ("invokespecial", name, "<init>", descriptor)])
            self.assertEqual(found, ("returned",), name)
        self.assertEqual(self.in_init([own, ("invokespecial", "C", "<init>", "()V")])[1],
                         ("wrong", "kind", ("a", "D"), "<init>", "()V", 1))
        self.assertEqual(self.in_init([("new", "D"), ("invokespecial", "P", "<init>", "()V")])[1],
                         ("wrong", "kind", ("a", "D"), "<init>", "()V", 1))
        self.assertEqual(self.in_init([])[1], ("wrong", "return", ("a", "D"), "<init>", "()V", 0))
        self.assertEqual(self.in_init([own, ("invokespecial", "P", "<init>", "()V")] * 2)[1],
                         ("wrong", "raw", ("a", "D"), "<init>", "()V", 3))

    def test_only_inits_have_this_right(self):
        more = {"D": file("D", "A", methods=[init("A"), made("m", [("new", "D"), ("invokespecial", "A", "<init>", "()V"), ("return",)], flags=PUBLIC)])}
        _, found = self.run_rows([*new("D"), ("invokevirtual", "D", "m", "()V"), ("return",)], more=more)
        self.assertEqual(found, ("wrong", "kind", ("a", "D"), "m", "()V", 1))

    def test_raw_until_the_init_of_object(self):
        """A parent's <init> sees it raw ahead of its own call."""
        machine = Machine(self.world([*new("B"), ("pop",), ("return",)]))
        seen = machine.seen("a", "A", "go", "()V", [])
        names = [(cls[1], name, index) for cls, name, _, index, _, _ in seen]
        self.assertEqual(names, [("A", "go", 0), ("A", "go", 1), ("A", "go", 2), ("B", "<init>", 0), ("B", "<init>", 1), ("A", "<init>", 0),
                                 ("A", "<init>", 1), ("A", "<init>", 2), ("B", "<init>", 2), ("A", "go", 3), ("A", "go", 4)])
        for steps, raw in ((6, True), (7, False), (8, False)):
            other = Machine(self.world([*new("B"), ("pop",), ("return",)]))
            self.assertEqual(other.call("a", "A", "go", "()V", [], steps=steps), ("open", "steps"))
            self.assertIs(other.is_raw(("ref", 1)), raw, steps)


class Returns(MachineCase):
    PUT = {"ireturn": I, "lreturn": J, "areturn": N}

    def test_of_the_descriptor(self):
        for word, rights in (("ireturn", "ZBSCI"), ("lreturn", "J"), ("areturn", ["LA;", "[I", "LGone;"]), ("return", "V")):
            for result in ["Z", "B", "S", "C", "I", "J", "V", "LA;", "[I", "LGone;"]:
                rows = ([self.PUT[word]] if word in self.PUT else []) + [(word,)]
                _, found = self.run_rows(rows, descriptor="()" + result)
                if result in rights:
                    self.assertEqual(found[0], "returned", (word, result))
                else:
                    self.assertEqual(found, ("wrong", "return", ("a", "A"), "go", "()" + result, len(rows) - 1), (word, result))

    def test_narrowing(self):
        number = 16711551
        for result, expected in (("Z", 1), ("B", 127), ("S", -129), ("C", 65407), ("I", number)):
            _, found = self.run_rows([("iconst", number), ("ireturn",)], descriptor="()" + result)
            self.assertEqual(found, ("returned", expected))
            methods = [made("m", [("iconst", number), ("ireturn",)], "()" + result)]
            self.gives(expected, [("invokestatic", "A", "m", "()" + result)], methods=methods)

    def test_what_they_take(self):
        for word, put, wrong, result in (
                ("ireturn", [N], "sort", "I"), ("ireturn", [J], "sort", "I"), ("ireturn", [], "few", "I"), ("lreturn", [I], "few", "J"),
                ("lreturn", [I, I], "sort", "J"), ("areturn", [I], "sort", "LA;"), ("areturn", [RAW], "raw", "LA;"),
                ("areturn", new("C"), "kind", "LA;"), ("areturn", [I, ("newarray", "I")], "kind", "[J"), ("areturn", [], "few", "LA;"),
                ("areturn", [RAW], "raw", "V"), ("areturn", new("C"), "return", "V"), ("areturn", new("C"), "return", "I"),
                ("ireturn", [N], "sort", "V")):
            self.wrong(wrong, put + [(word,)], descriptor="()" + result)
        for put, result in ((new("B"), "LA;"), (new("C"), "LI;"), (new("C"), "LGone;"), ([I, ("anewarray", "B")], "[LI;")):
            self.assertEqual(self.run_rows([*put, ("areturn",)], descriptor="()" + result)[1][0], "returned")


class Throwing(MachineCase):
    def catches(self, rows, handlers, expected, **more):
        machine, found = self.run_rows(rows, descriptor="()I", handlers=handlers, **more)
        self.assertEqual(found, expected)
        return machine

    def test_athrow(self):
        for name in ("Error", "RuntimeException", "Throwable"):
            self.throws(name, [*new(name), ("athrow",)])
        self.throws(NULL, [N, ("athrow",)])
        for put, word in ((new("A"), "kind"), ([I], "sort"), ([("new", "Error")], "raw"), ([("string", "x")], "kind"), ([], "few")):
            self.wrong(word, put + [("athrow",)])

    def test_handlers(self):
        rows = [N, ("athrow",), ("pop",), ("iconst", 1), ("ireturn",), ("pop",), ("iconst", 2), ("ireturn",)]
        for handlers, expected in (
                ([(0, 2, 2, None)], 1), ([(0, 2, 2, NULL)], 1), ([(0, 2, 2, "RuntimeException")], 1), ([(0, 2, 2, "Object")], 1),
                ([(0, 2, 2, "Error"), (0, 2, 5, "Exception")], 2), ([(0, 2, 2, None), (0, 2, 5, None)], 1), ([(0, 1, 2, None), (1, 2, 5, None)], 2),
                ([(1, 2, 2, None)], 1), ([(0, 2, 2, "Gone"), (0, 2, 5, None)], 2), ([(0, 2, 2, "Ring"), (0, 2, 5, None)], 2),
                ([(0, 2, 2, "I"), (0, 2, 5, None)], 2)):
            self.catches(rows, handlers, ("returned", expected), more={"Ring": file("Ring", "Ring")})
        for handlers in ([], [(0, 1, 2, None)], [(2, 3, 2, None)], [(0, 2, 2, "Error")], [(0, 2, 2, "Gone")]):
            self.throws(NULL, rows, descriptor="()I", handlers=handlers)

    def test_the_stack_is_emptied_and_locals_stay(self):
        rows = [I, ("istore", 1), J, I, N, ("athrow",), ("astore", 2), ("iload", 1), ("ireturn",)]
        self.catches(rows, [(0, 6, 6, None)], ("returned", 5), stack=4)
        _, found = self.run_rows([I, N, ("athrow",), ("pop",), ("pop",)], handlers=[(0, 3, 3, None)])
        self.assertEqual(found[:2], ("wrong", "few"))

    def test_the_object_that_is_thrown(self):
        rows = [*new("Error"), ("dup",), ("astore", 1), ("athrow",), ("aload", 1), ("if_acmpeq", 10), ("iconst", 0), ("ireturn",), ("iconst", 1),
                ("ireturn",)]
        self.catches(rows, [(5, 6, 6, None)], ("returned", 1))

    def test_through_frames(self):
        methods = [made("m", [("iconst", 1), ("iconst", 0), ("idiv",), ("ireturn",)], "()I"),
                   made("n", [("invokestatic", "A", "m", "()I"), ("ireturn",)], "()I", handlers=[(0, 1, 1, "Error")])]
        rows = [("nop",), ("invokestatic", "A", "n", "()I"), ("ireturn",), ("pop",), ("iconst", 9), ("ireturn",)]
        self.catches(rows, [(1, 2, 3, "ArithmeticException")], ("returned", 9), methods=methods)
        self.throws("ArithmeticException", rows, descriptor="()I", handlers=[(0, 1, 3, None), (2, 3, 3, None)], methods=methods)

    def test_in_a_loop(self):
        # A handler covers itself and counts, until it goes out.
        rows = [("iconst", 0), ("istore", 1), N, ("athrow",), ("pop",), ("iinc", 1, 1), ("iload", 1), ("iconst", 3), ("if_icmplt", 2),
                ("iload", 1), ("ireturn",)]
        self.catches(rows, [(2, 9, 4, None)], ("returned", 3))

    def test_a_handler_of_another_loader(self):
        fails = made("fail", [*new("E"), ("athrow",)])
        own = made("go", [("invokestatic", "T", "fail", "()V"), ("iconst", 0), ("ireturn",), ("pop",), ("iconst", 1), ("ireturn",)], "()I",
                   handlers=[(0, 1, 3, "E")])
        error = file("E", "Error", methods=[init("Error")])
        for told, expected in (("b", ("returned", 1)), (error, None)):
            world = World({"a": {"A": file("A", methods=[own]), "T": "b", "E": told}, "b": {"T": file("T", methods=[fails]), "E": error}})
            machine = Machine(world)
            found = machine.call("a", "A", "go", "()I", [])
            if expected is None:
                self.assertEqual(machine.sort_of(found[1]), ("b", "E"))
            else:
                self.assertEqual(found, expected)


class Synchronized(MachineCase):
    def counts(self, flags, rows, put, handlers=()):
        """Whether the object's monitor is entered within the method, and left behind it."""
        methods = [made("m", rows, "()V", flags, handlers=handlers)]
        return self.run_rows([*put, ("return",)], methods=methods)

    def test_within_and_behind(self):
        inside = [("aload", 0), ("monitorexit",), ("aload", 0), ("monitorenter",), ("return",)]
        call = [*new("A"), ("dup",), ("astore", 1), ("invokevirtual", "A", "m", "()V")]
        self.assertEqual(self.counts(("public", "synchronized"), inside, call)[1], ("returned",))
        self.throws("IllegalMonitorStateException", [*call, ("return",)], methods=[made("m", inside, "()V", PUBLIC)])
        machine, found = self.counts(("public", "synchronized"), inside, call + [("aload", 1), ("monitorexit",)])
        self.assertEqual(machine.sort_of(found[1]), ("base", "IllegalMonitorStateException"))

    def test_one_that_counts_0_stays_so(self):
        inside = [("aload", 0), ("monitorexit",), ("return",)]
        call = [*new("A"), ("dup",), ("astore", 1), ("invokevirtual", "A", "m", "()V"), ("aload", 1), ("monitorenter",), ("aload", 1),
                ("monitorexit",)]
        self.assertEqual(self.counts(("public", "synchronized"), inside, call)[1], ("returned",))

    def test_static_ones_enter_their_class(self):
        inside = [("class", "A"), ("monitorexit",), ("class", "A"), ("monitorenter",), ("return",)]
        call = [("invokestatic", "A", "m", "()V")]
        machine, found = self.counts(("public", "static", "synchronized"), inside, call)
        self.assertEqual(found, ("returned",))
        self.assertEqual(machine.held(("ref", 1)), ("a", "A"))
        machine, found = self.counts(("public", "static", "synchronized"), [("return",)], call)
        self.assertEqual(machine.sort_of(("ref", 1)), ("base", "Class"))

    def test_twice(self):
        # Behind the inner call the monitor is still entered once.
        rows = [("iload", 1), ("ifne", 3), ("return",), ("aload", 0), ("iconst", 0), ("invokevirtual", "A", "m", "(I)V"), ("aload", 0), ("monitorexit",),
                ("aload", 0), ("monitorenter",), ("return",)]
        methods = [made("m", rows, "(I)V", ("public", "synchronized"))]
        self.ends([*new("A"), ("iconst", 1), ("invokevirtual", "A", "m", "(I)V")], methods=methods)
        self.throws("IllegalMonitorStateException", [*new("A"), ("dup",), ("astore", 1), ("iconst", 1), ("invokevirtual", "A", "m", "(I)V"),
                                                     ("aload", 1), ("monitorexit",)], methods=methods)

    def test_they_leave_when_they_throw(self):
        call = [*new("A"), ("dup",), ("astore", 1), ("invokevirtual", "A", "m", "()V"), ("return",), ("pop",), ("aload", 1), ("monitorexit",)]
        machine, found = self.run_rows([*call, ("return",)], methods=[made("m", [N, ("athrow",)], "()V", ("public", "synchronized"))],
                                       handlers=[(0, 7, 7, None)])
        self.assertEqual(machine.sort_of(found[1]), ("base", "IllegalMonitorStateException"))

    def test_the_called_one_itself(self):
        machine, found = self.run_rows([("class", "A"), ("monitorexit",), ("return",)], flags=("public", "static", "synchronized"))
        self.assertEqual(found, ("returned",))


class Frames(MachineCase):
    def deep(self, many):
        """A method that calls itself so many times, and gives how often it did, or what stopped it."""
        rows = [("iload", 0), ("ifne", 3), ("return",), ("iload", 0), ("iconst", 1), ("isub",), ("invokestatic", "A", "deep", "(I)V"), ("return",)]
        return self.run_rows([("iconst", many), ("invokestatic", "A", "deep", "(I)V"), ("return",)], methods=[made("deep", rows, "(I)V")])

    def test_sixty_four(self):
        self.assertEqual(self.deep(62)[1], ("returned",))
        machine, found = self.deep(63)
        self.assertEqual(machine.sort_of(found[1]), ("base", "StackOverflowError"))

    def test_the_row_that_would_begin_one_more_throws(self):
        rows = [("iinc", 0, 1), ("iload", 0), ("invokestatic", "A", "deep", "(I)I"), ("ireturn",), ("pop",), ("iload", 0), ("ireturn",)]
        methods = [made("deep", rows, "(I)I", handlers=[(2, 3, 4, "StackOverflowError")])]
        self.gives(63, [("iconst", 0), ("invokestatic", "A", "deep", "(I)I")], methods=methods)

    def test_frames_that_have_ended_do_not_count(self):
        rows = [("iload", 0), ("ifne", 3), ("return",), ("iload", 0), ("iconst", 1), ("isub",), ("invokestatic", "A", "deep", "(I)V"), ("return",)]
        first = [("iconst", 1), ("invokestatic", "A", "deep", "(I)V")] * 5
        for many, right in ((62, True), (63, False)):
            machine, found = self.run_rows([*first, ("iconst", many), ("invokestatic", "A", "deep", "(I)V"), ("return",)],
                                           methods=[made("deep", rows, "(I)V")])
            self.assertEqual(found[0], "returned" if right else "thrown")

    def test_natives_have_no_frames(self):
        methods = [made("deep", [("iload", 0), ("ifne", 7), *new("Object"), ("invokevirtual", "Object", "hashCode", "()I"), ("return",),
                                 ("iload", 0), ("iconst", 1), ("isub",), ("invokestatic", "A", "deep", "(I)V"), ("return",)], "(I)V")]
        self.assertEqual(self.run_rows([("iconst", 62), ("invokestatic", "A", "deep", "(I)V"), ("return",)], methods=methods)[1], ("returned",))

    def test_wrong_and_native_ones_go_ahead_of_one_more(self):
        # At the bottom of 64 frames a native method, null, and what is wrong are still told.
        for row, put, word in ((("invokestatic", "A", "n", "()V"), [], "UnsatisfiedLinkError"), (("invokevirtual", "A", "v", "()V"), [N], NULL)):
            rows = [("iload", 0), ("ifne", 4 + len(put)), *put, row, ("return",), ("iload", 0), ("iconst", 1), ("isub",),
                    ("invokestatic", "A", "deep", "(I)V"), ("return",)]
            methods = [made("deep", rows, "(I)V"), ("n", "()V", ("public", "static", "native"), None), made("v", [("return",)], "()V", PUBLIC)]
            self.throws(word, [("iconst", 62), ("invokestatic", "A", "deep", "(I)V")], methods=methods)


class Begin(ErrorCase):
    """What begins a class, and in which order: each class with a <clinit> tells its number to a field of T."""

    def log(self, number, more=()):
        """A <clinit> that appends a digit to T.log."""
        rows = [("getstatic", "T", "log", "I"), ("iconst", 10), ("imul",), ("iconst", number), ("iadd",), ("putstatic", "T", "log", "I"), *more,
                ("return",)]
        return ("<clinit>", "()V", ("static",), body(rows))

    def world(self, rows, classes, descriptor="()V", handlers=()):
        top = file("T", fields=[("log", "I", ("public", "static"), None)], methods=[made("go", rows, descriptor, handlers=handlers)])
        return World({"a": {"T": top, **classes}})

    def runs(self, expected, rows, classes, outcome=("returned",), **more):
        machine = Machine(self.world([*rows, ("return",)], classes, **more))
        found = machine.call("a", "T", "go", "()V", [])
        if isinstance(outcome, str):
            self.assertEqual(found[0], "thrown", found)
            self.assertEqual(machine.sort_of(found[1])[1], outcome)
        else:
            self.assertEqual(found, outcome)
        self.assertEqual(machine.statics("a", "T"), {("a", "T", "log", "I"): expected})
        return machine

    def line(self):
        fields = [("s", "I", ("public", "static"), None)]
        return {"P": file("P", fields=fields, methods=[init(), self.log(1), made("m", [("return",)])]),
                "D": file("D", "P", methods=[init("P"), self.log(2), made("n", [("return",)])])}

    def test_what_begins_a_class(self):
        for row, put, expected in ((("new", "D"), [], 12), (("new", "P"), [], 1), (("getstatic", "P", "s", "I"), [], 1),
                                   (("putstatic", "P", "s", "I"), [I], 1), (("invokestatic", "P", "m", "()V"), [], 1),
                                   (("invokestatic", "D", "n", "()V"), [], 12), (("getstatic", "D", "s", "I"), [], 1),
                                   (("invokestatic", "D", "m", "()V"), [], 1)):
            self.runs(expected, [*put, row], self.line())

    def test_what_does_not(self):
        for rows in ([("class", "D")], [I, ("anewarray", "D")], [N, ("checkcast", "D")], [("string", "x"), ("instanceof", "D")],
                     [I, I, ("multianewarray", "[[LD;", 2)], [("iconst", 1), ("newarray", "I")]):
            self.runs(0, rows, self.line())

    def test_once_alone(self):
        self.runs(12, [("new", "D"), ("new", "D"), ("new", "P"), ("getstatic", "P", "s", "I")], self.line())

    def test_interfaces(self):
        body_ = made("x", [("return",)], flags=PUBLIC)
        def iface(name, interfaces, number, *methods):
            return face(name, interfaces, [self.log(number), *methods])
        abstract = ("y", "()V", ("public", "abstract"), None)
        static = made("z", [("return",)], flags=STATIC)
        private = made("w", [("return",)], flags=("private",))
        classes = {"I": iface("I", ["J", "K"], 3, body_), "J": iface("J", [], 4, abstract, static), "K": iface("K", ["L"], 5, private),
                   "L": iface("L", [], 6, body_), "P": file("P", "Object", ["L"], methods=[init(), self.log(1)]),
                   "D": file("D", "P", ["I"], methods=[init("P"), self.log(2)])}
        self.runs(61532, [("new", "D")], classes)
        classes["P"] = file("P", methods=[init(), self.log(1)])
        self.runs(16532, [("new", "D")], classes)
        # An interface begins nothing ahead of itself.
        self.runs(3, [("invokestatic_i", "I", "s", "()V")], {**classes, "I": iface("I", ["J", "K"], 3, body_, made("s", [("return",)]))})
        self.runs(4, [("invokestatic_i", "J", "z", "()V")], classes)

    def test_constants(self):
        fields = [("k", "I", ("public", "static"), 7), ("t", "LString;", ("public", "static"), "text"), ("b", "B", ("public", "static"), 300),
                  ("z", "Z", ("public", "static"), 2), ("j", "J", ("public", "static"), 2 ** 40), ("n", "I", ("public", "static"), None)]
        classes = {"D": file("D", fields=fields, methods=[init(), self.log(2)])}
        machine = self.runs(2, [("new", "D")], classes)
        found = machine.statics("a", "D")
        self.assertEqual([found["a", "D", name, descriptor] for name, descriptor, _, _ in fields], [7, ("ref", 1), 44, 0, 2 ** 40, 0])
        self.assertEqual(machine.held(("ref", 1)), "text")
        self.assertEqual(Machine(self.world([("return",)], classes)).statics("a", "D")["a", "D", "k", "I"], 0)

    def test_constants_come_ahead_of_the_parent(self):
        # The parent's <clinit> already finds them.
        top = [("getstatic", "T", "log", "I"), ("iconst", 10), ("imul",), ("getstatic", "D", "k", "I"), ("iadd",), ("putstatic", "T", "log", "I"),
               ("return",)]
        classes = {"P": file("P", methods=[init(), ("<clinit>", "()V", ("static",), body(top))]),
                   "D": file("D", "P", fields=[("k", "I", ("public", "static"), 7)], methods=[init("P"), self.log(2)])}
        self.runs(72, [("new", "D")], classes)

    def test_a_class_that_is_just_running(self):
        # D's <clinit> uses D itself, and E, whose <clinit> uses D.
        classes = {"D": file("D", fields=[("s", "I", ("public", "static"), None)], methods=[init(), self.log(2, [("getstatic", "E", "s", "I"), ("pop",)])]),
                   "E": file("E", fields=[("s", "I", ("public", "static"), None)], methods=[init(), self.log(3, [("getstatic", "D", "s", "I"), ("pop",)])])}
        self.runs(23, [("new", "D")], classes)
        self.runs(32, [("new", "E")], classes)

    def test_throwing(self):
        fails = [N, ("athrow",)]
        error = [*new("Error"), ("athrow",)]
        for more, name in ((fails, "ExceptionInInitializerError"), (error, "Error")):
            classes = {"P": file("P", methods=[init(), self.log(1, more)]), "D": file("D", "P", methods=[init("P"), self.log(2)])}
            self.runs(1, [("new", "P")], classes, name)
            # The parent is broken and so is the class, whose own <clinit> does not run.
            machine = self.runs(1, [("new", "D")], classes, name)
            self.assertEqual(machine.call("a", "T", "go", "()V", [])[0], "thrown")
            found = machine.call("a", "T", "go", "()V", [])
            self.assertEqual(machine.sort_of(found[1]), ("base", MISSING))

    def test_broken_ones(self):
        classes = {"P": file("P", fields=[("s", "I", ("public", "static"), None)], methods=[init(), self.log(1, [N, ("athrow",)])]),
                   "D": file("D", "P", methods=[init("P"), self.log(2)]), "E": file("E", "P", methods=[init("P"), self.log(3)])}
        for row in (("new", "P"), ("new", "D"), ("new", "E"), ("getstatic", "P", "s", "I")):
            rows = [("new", "D"), ("pop",), ("goto", 4), ("pop",), row]
            machine = Machine(self.world([*rows, ("return",)], classes, handlers=[(0, 1, 3, None)]))
            found = machine.call("a", "T", "go", "()V", [])
            self.assertEqual(machine.sort_of(found[1]), ("base", MISSING), row)
            self.assertEqual(machine.statics("a", "T"), {("a", "T", "log", "I"): 1})

    def test_the_row_goes_on(self):
        rows = [I, ("putstatic", "P", "s", "I"), ("getstatic", "P", "s", "I"), ("putstatic", "T", "log", "I")]
        self.runs(5, rows, self.line())

    def test_steps_behind_a_beginning_that_throws(self):
        classes = {"P": file("P", methods=[init(), self.log(1, [N, ("athrow",)])])}
        rows = [("new", "P"), ("goto", 3), ("nop",), ("pop",), ("return",)]
        world = self.world(rows, classes, handlers=[(0, 1, 3, None)])
        seen = Machine(world).seen("a", "T", "go", "()V", [])
        self.assertEqual([one[3] for one in seen if one[1] == "go"], [0, 3, 4])
        self.assertEqual(Machine(world).call("a", "T", "go", "()V", [], steps=len(seen)), ("returned",))
        self.assertEqual(Machine(world).call("a", "T", "go", "()V", [], steps=len(seen) - 1), ("open", "steps"))

    def test_a_begin_is_no_step(self):
        world = self.world([("new", "D"), ("return",)], self.line())
        seen = Machine(world).seen("a", "T", "go", "()V", [])
        self.assertEqual(len(seen), 2 + 7 + 7)
        self.assertEqual([(one[0][1], one[3]) for one in seen if one[1] == "go"], [("T", 0), ("T", 1)])
        self.assertEqual(Machine(world).call("a", "T", "go", "()V", [], steps=16), ("returned",))
        self.assertEqual(Machine(world).call("a", "T", "go", "()V", [], steps=15), ("open", "steps"))

    def test_the_class_of_the_call(self):
        classes = {"D": file("D", methods=[init(), self.log(2), made("s", [("return",)]), made("v", [("return",)], flags=PUBLIC)])}
        machine = Machine(self.world([("return",)], classes))
        self.assertEqual(machine.call("a", "D", "s", "()V", []), ("returned",))
        self.assertEqual(machine.statics("a", "T"), {("a", "T", "log", "I"): 2})
        self.assertEqual(machine.call("a", "D", "s", "()V", []), ("returned",))
        self.assertEqual(machine.statics("a", "T"), {("a", "T", "log", "I"): 2})

    def test_the_class_of_the_call_throws(self):
        classes = {"D": file("D", methods=[self.log(2, [N, ("athrow",)]), made("s", [("return",)])])}
        machine = Machine(self.world([("return",)], classes))
        for name in ("ExceptionInInitializerError", MISSING, MISSING):
            found = machine.call("a", "D", "s", "()V", [])
            self.assertEqual((found[0], machine.sort_of(found[1])), ("thrown", ("base", name)))

    def test_a_call_on_an_object_begins_nothing(self):
        """The object was kept by a class that is broken since."""
        more = [*new("D"), ("putstatic", "K", "d", "LD;"), N, ("athrow",)]
        classes = {"K": file("K", fields=[("d", "LD;", ("public", "static"), None)], methods=[
                       made("get", [("getstatic", "K", "d", "LD;"), ("areturn",)], "()LD;")]),
                   "D": file("D", methods=[init(), self.log(2, more), made("s", [("return",)]), made("v", [("return",)], flags=PUBLIC)])}
        machine = Machine(self.world([("return",)], classes))
        self.assertEqual(machine.call("a", "D", "s", "()V", [])[0], "thrown")
        _, kept = machine.call("a", "K", "get", "()LD;", [])
        self.assertEqual(machine.call("a", "D", "v", "()V", [kept]), ("returned",))
        self.assertEqual(machine.call("a", "D", "s", "()V", [])[0], "thrown")

    def test_a_clinit_that_is_wrong(self):
        classes = {"D": file("D", methods=[init(), ("<clinit>", "()V", ("static",), body([("iadd",)]))]),
                   "E": file("E", methods=[init(), ("<clinit>", "()V", ("static",), Uncut("cut", 0))])}
        for name, word in (("D", "few"), ("E", "jump")):
            world = self.world([("new", name), ("return",)], classes)
            self.assertEqual(Machine(world).call("a", "T", "go", "()V", []), ("wrong", word, ("a", name), "<clinit>", "()V", 0))

    def test_frames_of_beginnings_count(self):
        def deep(many):
            rows = [("iload", 0), ("ifne", 5), ("new", "D"), ("pop",), ("return",), ("iload", 0), ("iconst", 1), ("isub",),
                    ("invokestatic", "T", "deep", "(I)V"), ("return",)]
            top = file("T", fields=[("log", "I", ("public", "static"), None)], methods=[
                made("deep", rows, "(I)V"), made("go", [("iconst", many), ("invokestatic", "T", "deep", "(I)V"), ("return",)])])
            world = World({"a": {"T": top, "D": file("D", methods=[init(), self.log(2)])}})
            machine = Machine(world)
            return machine, machine.call("a", "T", "go", "()V", [])
        self.assertEqual(deep(61)[1], ("returned",))
        machine, found = deep(62)
        self.assertEqual(machine.sort_of(found[1]), ("base", "StackOverflowError"))
        # The class is broken behind that.
        self.assertEqual(machine.statics("a", "T"), {("a", "T", "log", "I"): 0})

    def test_wrong_words_go_ahead_of_it(self):
        for rows, word in (([N, ("putstatic", "P", "s", "I")], "sort"), ([("putstatic", "P", "s", "I")], "few")):
            machine = Machine(self.world(rows, self.line()))
            self.assertEqual(machine.call("a", "T", "go", "()V", [])[:2], ("wrong", word))
            self.assertEqual(machine.statics("a", "T"), {("a", "T", "log", "I"): 0})

    def test_full_goes_behind_it(self):
        world = World({"a": {**self.line(), "T": file("T", fields=[("log", "I", ("public", "static"), None)], methods=[
            made("go", [("getstatic", "P", "s", "I")], stack=0)])}})
        machine = Machine(world)
        self.assertEqual(machine.call("a", "T", "go", "()V", []), ("wrong", "full", ("a", "T"), "go", "()V", 0))
        self.assertEqual(machine.statics("a", "T"), {("a", "T", "log", "I"): 1})

    def test_null_goes_ahead_and_a_native_method_behind(self):
        classes = {"D": file("D", methods=[init(), self.log(2), ("n", "()V", ("public", "static", "native"), None)])}
        self.runs(2, [("invokestatic", "D", "n", "()V")], classes, "UnsatisfiedLinkError")

    def test_interfaces_that_stand_in_a_ring_of_ways(self):
        loaders = {"A0": face("A0", [], [made("x", [("return",)], flags=PUBLIC)]), "B0": face("B0")}
        for k in range(1, 17):
            for name in "AB":
                loaders[name + str(k)] = face(name + str(k), ["A" + str(k - 1), "B" + str(k - 1)])
        loaders["D"] = file("D", "Object", ["A16", "B16"], methods=[init(), self.log(2)])
        self.runs(2, [("new", "D")], loaders)


if __name__ == "__main__":
    unittest.main()
