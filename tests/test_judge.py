"""Told frames, handlers, and how the judge goes along a code: [5.1] to [5.5]."""

import unittest

from helpers import face, file, no_rows, no_strings
from judging import JudgeCase, MISSING, method, thing
from typegate.classes import Code, Uncut
from typegate.errors import NoForm, NoMethod, NotDefined, NotFound, NotRight
from typegate.judge import fault_of, frames_of, judged
from typegate.worlds import World

INT, LONG, NULL = "int", "long", "null"
ERROR = thing("Throwable")


class Examples(JudgeCase):
    def test_them(self):
        told = Code(1, 1, [("iload", 0), ("ifge", 5), ("iload", 0), ("ineg",), ("ireturn",), ("iload", 0), ("ireturn",)], [],
                    [(5, ["int"], [])])
        made = file(methods=[("abs", "(I)I", ["public", "static"], told)])
        world = World({"a": {"A": made}})
        self.assertIsNone(judged(world, ("a", "A")))
        self.assertEqual(fault_of(world, ("a", "A"), "abs", "(I)I", frames=[]), (1, "goal"))
        self.assertEqual(frames_of(world, ("a", "A"), "abs", "(I)I"), [
            (("int",), (), False), (("int",), ("int",), False), (("int",), (), False), (("int",), ("int",), False),
            (("int",), ("int",), False), (("int",), (), False), (("int",), ("int",), False)])
        start = Code(1, 1, [("aload", 0), ("invokevirtual", "B", "go", "()V"), ("return",)], [], [])
        other = file("B", methods=[("<init>", "()V", ["public"], start)])
        self.assertEqual(judged(World({"a": {"B": other}}), ("a", "B")), ("<init>", "()V", 1, "sort"))


class Beginnings(JudgeCase):
    def first(self, expected, flag, name, descriptor, flags=(), cls=None):
        rows = [("aconst_null",), ("athrow",)]
        told = (name, descriptor, flags, Code(1, 6, rows, [], []))
        world = World({"a": {"A": cls(told) if cls else file(methods=[told])}})
        self.assertEqual(frames_of(world, ("a", "A"), name, descriptor)[0], (expected, (), flag))

    def test_parameters(self):
        self.first((thing("A"),) + ("top",) * 5, False, "m", "()V")
        self.first(("top",) * 6, False, "m", "()V", ["static"])
        self.first((INT, INT, INT, INT, INT, "top"), False, "m", "(ZBSCI)J", ["static"])
        self.first((thing("A"), LONG, "top", thing("[J"), thing("p/B"), INT), False, "m", "(J[JLp/B;I)V")
        self.first((LONG, "top", LONG, "top", thing("[[LA;"), "top"), False, "m", "(JJ[[LA;)V", ["static"])

    def test_inits(self):
        self.first(("this", LONG, "top", "top", "top", "top"), True, "<init>", "(J)V")
        self.first(("top",) * 6, False, "<clinit>", "()V", ["static"])

    def test_interfaces(self):
        self.first((thing("A"),) + ("top",) * 5, False, "m", "()V", ["public"],
                   lambda told: face("A", methods=[told]))


class ToldFrames(JudgeCase):
    def map(self, expected, places, stack, name="m", flags=()):
        rows = [("nop",), ("goto", 4), ("new", "A"), ("goto", 3), ("goto", 4)]
        own = ["this"] if name == "<init>" else []
        told = [(2, places, stack), (3, own, ["top"]), (4, own, [])]
        self.fault(expected, rows, told, room=3, places=3, name=name, flags=flags)

    def test_room_for_locals(self):
        for places in ([INT] * 3, [LONG, INT], [INT, LONG], ["top"] * 3, [], [thing("Gone")]):
            self.map(None, places, [])
        for places in ([INT] * 4, [LONG, LONG], [INT, INT, LONG], ["top"] * 4, [LONG, INT, "top"]):
            self.map((2, "map"), places, [])

    def test_room_for_the_stack(self):
        for stack in ([INT], [LONG], [INT, INT], ["top", "top"]):
            self.fault((1, "goal"), [("nop",), ("goto", 2), ("return",)], [(2, [], stack)], room=3, places=3)
        for stack in ([INT] * 4, [LONG, LONG], [INT, INT, LONG], ["top"] * 4):
            self.fault((2, "map"), [("nop",), ("goto", 2), ("return",)], [(2, [], stack)], room=3, places=3)
        self.fault((2, "map"), [("nop",), ("goto", 2), ("return",)], [(2, [], [INT])], room=0)

    def test_new_objects(self):
        for entry, expected in ((("new", 2), None), (("new", 0), (2, "map")), (("new", 1), (2, "map")),
                                (("new", 3), (2, "map"))):
            self.map(expected, [entry], [])
        self.fault((0, "map"), [("goto", 0)], [(0, [], [("new", 0)])])

    def test_this(self):
        self.map((2, "map"), ["this"], [])
        self.map((2, "map"), ["this"], [], flags=["static"])
        self.map(None, ["this"], [], "<init>")
        self.fault((0, "map"), [("goto", 0)], [(0, [], ["this"])])
        self.fault((0, "map"), [("goto", 0)], [(0, ["this"], [])], name="<clinit>", flags=["static"])

    def test_the_first_one_ahead_of_everything(self):
        rows = [("iadd",), ("goto", 1), ("goto", 1)]
        self.fault((1, "map"), rows, [(1, [INT] * 10, []), (2, ["this"], [])])
        self.fault((2, "map"), rows, [(1, [INT] * 9, []), (2, ["this"], [])])
        self.fault((0, "depth"), rows, [(1, [INT] * 9, []), (2, [], [])])

    def test_more_frames_than_are_needed(self):
        rows = [("iconst", 1), ("istore", 1), ("iload", 1), ("ireturn",)]
        more = {"descriptor": "()I", "flags": ["static"]}
        self.fault(None, rows, [(1, [], [INT]), (2, ["top", INT], []), (3, [], [INT])], **more)
        self.fault((2, "sort"), rows, [(2, [], [])], **more)
        self.fault(None, rows, [(0, [], [])], **more)

    def test_the_told_one_counts(self):
        rows = [("aload", 0), ("astore", 1), ("aload", 1), ("areturn",)]
        told = ("m", "()LObject;", (), Code(1, 3, rows, [], [(2, ["top", thing("P")], [])]))
        found = frames_of(self.world_for(told), ("a", "A"), "m", "()LObject;")
        self.assertEqual(found[1], ((thing("A"), "top", "top"), (thing("A"),), False))
        self.assertEqual(found[2], (("top", thing("P"), "top"), (), False))
        self.assertEqual(found[3], (("top", thing("P"), "top"), (thing("P"),), False))

    def test_longs_in_told_locals(self):
        rows = [("nop",), ("lload", 1), ("lreturn",)]
        told = ("m", "(JI)J", (), Code(2, 4, rows, [], [(1, [thing("A"), LONG, INT], [])]))
        found = frames_of(self.world_for(told), ("a", "A"), "m", "(JI)J")
        self.assertEqual(found, [((thing("A"), LONG, "top", INT), (), False), ((thing("A"), LONG, "top", INT), (), False),
                                 ((thing("A"), LONG, "top", INT), (LONG,), False)])


class Fitting(JudgeCase):
    """Whether the frame with which control comes fits the one that is told."""

    def comes(self, expected, rows, told, **more):
        """The told frame stands behind the rows, at a nop."""
        index = len(rows)
        self.fault(None if expected is None else (index, expected), rows + [("goto", index)], [(index, *told)], **more)

    def test_stacks(self):
        self.comes(None, [("iconst", 1)], ([], [INT]))
        self.comes(None, [("iconst", 1)], ([], ["top"]))
        self.comes(None, [("lconst", 1)], ([], [LONG]))
        self.comes("frame", [("lconst", 1)], ([], ["top"]))
        self.comes("frame", [("lconst", 1)], ([], ["top", "top"]))
        self.comes("frame", [("iconst", 1)], ([], [LONG]))
        self.comes("frame", [("iconst", 1)], ([], []))
        self.comes("frame", [], ([], [INT]))
        self.comes("frame", [("iconst", 1), ("aconst_null",)], ([], [thing("A"), INT]))
        self.comes(None, [("iconst", 1), ("aconst_null",)], ([], [INT, thing("A")]))

    def test_locals(self):
        for told, expected in (([thing("A")], None), ([thing("P")], None), (["top"], None), ([], None), ([thing("I")], None),
                               ([INT], "frame"), ([NULL], "frame"), ([thing("B")], "frame"),
                               ([thing("A"), INT], "frame"), ([thing("A"), "top", LONG], "frame")):
            self.comes(expected, [("nop",)], (told, []))
        for told, expected in (([LONG], None), ([], None), (["top", "top"], None), ([LONG, "top"], None),
                               (["top", LONG], "frame"), ([INT], "frame"), ([LONG, INT], "frame")):
            self.comes(expected, [("nop",)], (told, []), flags=["static"], descriptor="(J)V")

    def test_the_flag(self):
        self.comes(None, [("nop",)], (["this"], []), name="<init>")
        self.comes("frame", [("nop",)], ([], []), name="<init>")
        self.comes(None, [("aload", 0), ("invokespecial", "P", "<init>", "()V")], ([thing("A")], []), name="<init>")
        self.comes("frame", [("aload", 0), ("invokespecial", "P", "<init>", "()V")], (["this"], []), name="<init>")
        # Nothing but the stack has "this": the told one has no flag.
        self.comes("frame", [("aload", 0)], ([], ["this"]), name="<init>")
        self.comes(None, [("aload", 0)], (["this"], ["this"]), name="<init>")

    def test_a_told_flag_may_come_without_one(self):
        rows = [("goto", 0), ("goto", 2), ("goto", 2)]
        self.fault((1, "goal"), rows, [(0, ["this"], []), (1, [], []), (2, ["this"], [])], name="<init>")

    def test_classes_that_are_not_found(self):
        self.comes(MISSING, [("nop",)], ([thing("Gone")], []))
        self.comes(MISSING, [("nop",)], ([thing("Gone"), INT], []))
        self.comes(MISSING, [("nop",)], ([INT, thing("Gone")], []), descriptor="(LA;)V")
        self.comes("frame", [("nop",)], ([thing("Gone")], [INT]))
        self.comes("frame", [("aload", 0)], ([INT], [thing("Gone")]))
        self.comes(MISSING, [("aload", 0), ("aload", 0)], ([], [INT, thing("Gone")]))
        self.comes("ClassCircularityError", [("aload", 0)], ([thing("Bad")], [thing("Gone")]))
        self.comes("ClassCircularityError", [("nop",)], ([thing("Bad"), thing("Gone")], []), descriptor="(LA;)V")
        self.comes(MISSING, [("nop",)], ([thing("Gone"), thing("Bad")], []), descriptor="(LA;)V")

    def test_index_0(self):
        self.fault(None, [("goto", 0)], [(0, [thing("P")], [])])
        self.fault((0, "frame"), [("goto", 0)], [(0, [thing("B")], [])])
        self.fault((0, "frame"), [("goto", 0)], [(0, [], [INT])])
        self.fault((0, MISSING), [("goto", 0)], [(0, [thing("Gone")], [])])

    def test_loosely(self):
        rows = [("iconst", 1), ("newarray", "I"), ("goto", 3), ("areturn",)]
        for loose, expected in ((False, (2, "goal")), (True, None)):
            self.fault(expected, rows, [(3, [], [thing("I")])], descriptor="()LI;", loose=loose)


class Flow(JudgeCase):
    def test_missing(self):
        for row, result in ((("goto", 0), "V"), (("return",), "V"), (("ireturn",), "I"), (("lreturn",), "J"),
                            (("areturn",), "LA;"), (("athrow",), "V"), (("switch", (), 0), "V")):
            push = {"ireturn": ("iconst", 1), "lreturn": ("lconst", 1), "areturn": ("aconst_null",),
                    "athrow": ("aconst_null",), "switch": ("iconst", 0)}.get(row[0], ("nop",))
            rows = [("nop",), push, row, ("goto", 3)]
            told = [(0, [], [])]
            self.fault((3, "missing"), rows, told, descriptor="()" + result)
            self.fault(None, rows, told + [(3, [INT], [INT])], descriptor="()" + result)

    def test_end(self):
        self.fault((0, "end"), [("nop",)])
        self.fault((1, "end"), [("iconst", 1), ("ifeq", 0)], [(0, [], [])])
        self.fault((0, "depth"), [("pop",)])
        self.fault(None, [("return",)])

    def test_goal_goes_ahead_of_end(self):
        self.fault((1, "goal"), [("iconst", 1), ("ifeq", 0)])

    def test_goals(self):
        rows = [("iconst", 1), ("ifeq", 3), ("return",), ("return",)]
        self.fault((1, "goal"), rows)
        self.fault(None, rows, [(3, [], [])])
        self.fault((1, "goal"), rows, [(3, [], [INT])])
        self.fault((1, MISSING), rows, [(3, [thing("Gone")], [])])
        self.fault((3, "missing"), [("iconst", 1), ("ifeq", 0), ("return",), ("return",)], [(0, [], [])])

    def test_goals_see_the_frame_behind(self):
        self.fault(None, [("iconst", 1), ("iconst", 1), ("ifeq", 4), ("nop",), ("return",)], [(4, [], [INT])])
        self.fault((2, "goal"), [("iconst", 1), ("iconst", 1), ("ifeq", 4), ("pop",), ("return",)],
                   [(4, [], [INT, INT])])

    def test_backwards(self):
        rows = [("iconst", 0), ("istore", 1), ("iinc", 1, 1), ("goto", 2)]
        self.fault(None, rows, [(2, [thing("A"), INT], [])])
        self.fault((2, "sort"), rows, [(2, [thing("A")], [])])
        self.fault((4, "goal"), rows[:2] + [("aconst_null",), ("astore", 1), ("goto", 2)], [(2, ["top", INT], [])])

    def test_switches(self):
        rows = [("iconst", 1), ("switch", ((1, 2), (5, 3)), 4), ("return",), ("return",), ("return",)]
        right = {2: (2, [], []), 3: (3, [], []), 4: (4, [], [])}
        self.fault(None, rows, list(right.values()))
        for index in right:
            self.fault((1, "goal"), rows, [right[k] for k in right if k != index])

    def test_the_order_of_goals(self):
        rows = [("iconst", 1), ("switch", ((1, 2), (5, 3)), 4), ("return",), ("return",), ("return",)]
        lost, ring = [thing("Gone")], [thing("Bad")]
        for first, second, third, expected in ((lost, ring, [], MISSING), (ring, lost, [], "ClassCircularityError"),
                                               ([], lost, ring, MISSING), ([], ring, lost, "ClassCircularityError"),
                                               ([INT], lost, ring, "goal")):
            self.fault((1, expected), rows, [(2, first, []), (3, second, []), (4, third, [])])

    def test_the_first_index(self):
        self.fault((1, "depth"), [("iconst", 1), ("iadd",), ("pop2",), ("return",)])
        self.fault((2, "depth"), [("iconst", 1), ("nop",), ("iadd",), ("pop2",), ("return",)])

    def test_rows_that_are_never_reached(self):
        self.fault((1, "depth"), [("return",), ("pop",), ("return",)], [(1, [], [])])
        self.fault(None, [("return",), ("pop",), ("return",)], [(1, [], [LONG, INT])])


class Handlers(JudgeCase):
    BODY = [("iconst", 1), ("istore", 1), ("iconst", 2), ("istore", 1), ("return",), ("athrow",)]

    def judge(self, expected, handlers, told, rows=None, **more):
        self.fault(expected, rows or self.BODY, told, handlers, **more)

    def test_right_ones(self):
        for kind, caught in ((None, "Throwable"), ("Throwable", "Throwable"), ("Error", "Error"), ("Error", "Throwable"),
                             ("NullPointerException", "Exception"), ("Error", "Object")):
            rows = self.BODY if caught != "Object" else self.BODY[:5] + [("return",)]
            self.judge(None, [(0, 5, 5, kind)], [(5, [], [thing(caught)])], rows)

    def test_kinds(self):
        for kind in ("A", "String", "Object"):
            self.judge((0, "catch"), [(0, 5, 5, kind)], [(5, [], [thing(kind)])])
        self.judge((0, MISSING), [(0, 5, 5, "Gone")], [(5, [], [ERROR])])
        self.judge((0, "ClassCircularityError"), [(0, 5, 5, "Bad")], [(5, [], [ERROR])])
        # Of an interface it is not known to be one of Throwable.
        self.judge((0, "catch"), [(0, 5, 5, "I")], [(5, [], [ERROR])])

    def test_told_frames(self):
        for told in ([], [(5, [], [])], [(5, [], [ERROR, ERROR])], [(5, [], [thing("Error")])], [(5, [INT], [ERROR])],
                     [(5, [], [INT])], [(5, ["top", "top", INT], [ERROR])]):
            self.judge((0, "handler"), [(0, 5, 5, None)], told)
        self.judge(None, [(0, 5, 5, None)], [(5, [thing("P")], [ERROR])])
        self.judge((0, MISSING), [(0, 5, 5, None)], [(5, [thing("Gone")], [ERROR])])
        self.judge((0, "handler"), [(0, 5, 5, None)], [(5, [thing("Gone")], [])])

    def test_a_part_of_the_rows(self):
        for begin, end, at in ((0, 1, 0), (2, 3, 2), (4, 5, 4), (1, 5, 1), (3, 5, 3)):
            self.judge((at, "handler"), [(begin, end, 5, None)], [(5, [INT], [ERROR])])
            self.judge((at, "catch"), [(begin, end, 5, "A")], [(5, [], [ERROR])])

    def test_locals_that_change_within(self):
        told = [(5, [thing("A"), INT], [ERROR])]
        # The local is set by the row with index 1, and covered from the next one on.
        self.judge((0, "handler"), [(0, 5, 5, None)], told)
        self.judge((1, "handler"), [(1, 5, 5, None)], told)
        self.judge(None, [(2, 5, 5, None)], told)

    def test_a_handler_sees_the_frame_ahead_of_the_row(self):
        rows = [("iconst", 1), ("istore", 1), ("aconst_null",), ("astore", 1), ("return",), ("athrow",)]
        self.judge(None, [(3, 4, 5, None)], [(5, [thing("A"), INT], [ERROR])], rows)
        self.judge((4, "handler"), [(3, 5, 5, None)], [(5, [thing("A"), INT], [ERROR])], rows)

    def test_the_stack_does_not_matter(self):
        rows = [("lconst", 1), ("iconst", 1), ("pop",), ("pop2",), ("return",), ("athrow",)]
        self.judge(None, [(0, 4, 5, None)], [(5, [], [ERROR])], rows, room=3)

    def test_the_order_of_handlers(self):
        told = [(5, [], [thing("Error")])]
        self.judge((0, "catch"), [(0, 5, 5, "A"), (0, 5, 5, None)], told)
        self.judge((0, "handler"), [(0, 5, 5, None), (0, 5, 5, "A")], told)
        self.judge((0, MISSING), [(0, 5, 5, "Gone"), (0, 5, 5, None)], told)
        self.judge((0, "handler"), [(1, 5, 5, "A"), (0, 5, 5, None)], told)

    def test_catch_goes_ahead_of_handler(self):
        self.judge((0, "catch"), [(0, 5, 5, "A")], [])

    def test_handlers_go_ahead_of_the_rule_and_behind_the_frame(self):
        rows = [("iadd",), ("athrow",)]
        self.judge((0, "handler"), [(0, 1, 1, None)], [(1, [INT], [ERROR])], rows)
        self.judge((0, "depth"), [(0, 1, 1, None)], [(1, [], [ERROR])], rows)
        self.judge((0, "frame"), [(0, 1, 1, None)], [(0, [INT], []), (1, [INT], [ERROR])], rows)
        self.judge((1, "missing"), [(1, 2, 2, "A")], [(2, [], [ERROR])], [("return",), ("nop",), ("athrow",)])

    def test_the_told_frame_is_what_handlers_see(self):
        rows = [("nop",), ("return",), ("athrow",)]
        self.judge((1, "handler"), [(1, 2, 2, None)], [(1, [], []), (2, [thing("A")], [ERROR])], rows)
        self.judge(None, [(1, 2, 2, None)], [(2, [thing("A")], [ERROR])], rows)

    def test_a_handler_that_covers_itself(self):
        rows = [("return",), ("athrow",)]
        self.judge(None, [(0, 2, 1, None)], [(1, [], [ERROR])], rows)


class HandlersOfInits(JudgeCase):
    def test_another_init_on_this(self):
        rows = [("aload", 0), ("invokespecial", "P", "<init>", "()V"), ("return",), ("athrow",)]
        for places in (["this"], [], ["top"], [thing("A")]):
            self.fault((1, "handler"), rows, [(3, places, [ERROR])], [(1, 2, 3, None)], name="<init>")
        # Ahead of the call and behind it all is well.
        self.fault(None, rows, [(3, ["this"], [ERROR])], [(0, 1, 3, None)], name="<init>")
        self.fault(None, rows, [(3, [], [ERROR])], [(2, 3, 3, None)], name="<init>")
        self.fault((2, "handler"), rows, [(3, ["this"], [ERROR])], [(2, 3, 3, None)], name="<init>")

    def test_new_objects(self):
        rows = [("new", "B"), ("dup",), ("astore", 1), ("invokespecial", "B", "<init>", "()V"), ("return",), ("athrow",)]
        new = ("new", 0)
        for places, expected in (([thing("A")], None), ([thing("A"), new], (3, "handler")), ([], None)):
            self.fault(expected, rows, [(5, places, [ERROR])], [(3, 4, 5, None)])
        self.fault(None, rows[:3] + [("nop",)] + rows[3:], [(6, ["top", new], [ERROR])], [(3, 4, 6, None)])

    def test_arguments_of_two_places(self):
        rows = [("new", "B"), ("dup",), ("astore", 1), ("lconst", 1), ("invokespecial", "B", "<init>", "(J)V"), ("return",),
                ("athrow",)]
        self.fault((4, "handler"), rows, [(6, ["top", ("new", 0)], [ERROR])], [(4, 5, 6, None)])
        self.fault(None, rows, [(6, [], [ERROR])], [(4, 5, 6, None)])

    def test_a_ready_object_stays_in_the_locals(self):
        # The rule is looked at behind the handler, which sees the object of the call in the locals.
        rows = [("aload", 0), ("invokespecial", "A", "<init>", "()V"), ("return",), ("athrow",)]
        self.fault((1, "sort"), rows, [(3, [thing("A")], [ERROR])], [(1, 2, 3, None)])
        rows[0] = ("iload", 0)
        self.fault((1, "sort"), rows, [(3, [INT], [ERROR])], [(1, 2, 3, None)], descriptor="(I)V", flags=["static"])

    def test_too_few_entries_for_the_call(self):
        rows = [("new", "B"), ("astore", 1), ("invokespecial", "B", "<init>", "()V"), ("return",), ("athrow",)]
        self.fault((2, "depth"), rows, [(4, ["top", ("new", 0)], [ERROR])], [(2, 3, 4, None)])

    def test_other_calls_keep_them(self):
        rows = [("aload", 0), ("invokespecial", "P", "m", "()V"), ("return",), ("athrow",)]
        self.fault((1, "sort"), rows, [(3, ["this"], [ERROR])], [(1, 2, 3, None)], name="<init>")
        rows = [("new", "B"), ("astore", 1), ("aload", 0), ("invokespecial", "B", "<init>", "()V"), ("return",), ("athrow",)]
        self.fault((3, "sort"), rows, [(5, ["top", ("new", 0)], [ERROR])], [(3, 4, 5, None)])


class Judged(JudgeCase):
    def judge(self, expected, *methods, **more):
        world = World({"a": {"A": file(methods=methods), **more}})
        self.assertEqual(judged(world, ("a", "A")), expected)

    def test_methods_in_their_order(self):
        right = method("a")
        self.judge(None)
        self.judge(None, right, method("b", "native"), method("c", "static"))
        one, two = method("b", body=self.bad(9)), method("c", descriptor="(I)V", body=self.bad(9))
        self.judge(("b", "()V", 0, "depth"), right, one, two)
        self.judge(("c", "(I)V", 0, "depth"), right, two, one)

    def bad(self, places):
        return Code(0, places, [("pop",), ("return",)], [], [])

    def test_uncut_ones(self):
        for why in ("opcode", "cut", "switch", "local", "jump", "sort", "count", "handler"):
            self.judge(("b", "()V", -1, "CodeError"), method("a"), method("b", body=Uncut(why, 3)), method("c", body=self.bad(9)))
        self.judge(("b", "()V", -1, "ClassFormatError"), method("b", body=Uncut("map", 0)))
        self.judge(("a", "()V", 0, "depth"), method("a", body=self.bad(9)), method("b", body=Uncut("map", 0)))

    def test_strictly(self):
        rows = [("iconst", 1), ("newarray", "I"), ("areturn",)]
        told = method("m", descriptor="()LI;", body=Code(1, 1, rows, [], []))
        self.judge(("m", "()LI;", 2, "sort"), told, I=face("I"))

    def test_base_classes(self):
        for name in ("Object", "String", "Cloneable", "NullPointerException"):
            self.assertIsNone(judged(World({}), ("base", name)))

    def test_wrong_arguments(self):
        world = World({"a": {"A": file(parent="Gone"), "B": file("B", flags=["static"])}})
        for cls in (("a", "C"), ("b", "A"), "A", None, ["a", "A"], ("a", "[I")):
            self.raises(NotDefined, {"cls": cls}, judged, world, cls)
        self.raises(NotFound, {"name": "A", "word": MISSING}, judged, world, ("a", "A"))
        self.raises(NotFound, {"name": "B", "word": "ClassFormatError"}, judged, world, ("a", "B"))

    def test_by_name(self):
        self.assertIsNone(judged(cls=("base", "Object"), world=World({})))


class OneMethod(JudgeCase):
    def setUp(self):
        rows = [("iload", 0), ("ifge", 3), ("nop",), ("return",)]
        body = Code(1, 2, rows, [], [(3, ["int"], [])])
        self.world = World({"a": {"A": file(methods=[
            ("m", "(I)V", ["static"], body), ("m", "()V", ["static"], Code(0, 0, [("pop",), ("return",)], [], [])),
            ("u", "()V", ["static"], Uncut("map", 0)), ("n", "()V", ["native"], None)]), "Lost": file("Lost", "Gone")}})
        self.cls = ("a", "A")

    def test_frames(self):
        for frames, expected in ((None, None), ([], (1, "goal")), (((3, (), ()),), None), ([(3, ["int", "int"], [])], (1, "goal")),
                                 ([(2, ["int"], []), (3, ["int"], [])], None), ([(0, ["int"], []), (3, [], [])], None),
                                 ([(1, [], [])], (1, "frame")), ([(3, ["int"] * 3, [])], (3, "map"))):
            self.assertEqual(fault_of(self.world, self.cls, "m", "(I)V", frames), expected)

    def test_the_class_keeps_its_own(self):
        given = [(3, ["int"], [])]
        fault_of(self.world, self.cls, "m", "(I)V", given)
        self.assertEqual(given, [(3, ["int"], [])])
        fault_of(self.world, self.cls, "m", "(I)V", [])
        self.assertEqual(self.world.file_of(self.cls).methods[0][3].frames, ((3, ("int",), ()),))
        self.assertIsNone(fault_of(self.world, self.cls, "m", "(I)V"))

    def test_one_of_two(self):
        self.assertEqual(fault_of(self.world, self.cls, "m", "()V"), (0, "depth"))

    def test_wrong_frames(self):
        for frames in no_rows():
            if frames is not None:
                self.raises(NoForm, {"why": "frames", "at": -1}, fault_of, self.world, self.cls, "m", "(I)V", frames)
        for at, frames in ((0, [None]), (0, [(4, [], [])]), (0, [(-1, [], [])]), (1, [(1, [], []), (1, [], [])]),
                           (1, [(3, [], []), (2, [], [])]), (0, [(1, ["what"], [])]), (0, [(1, [("new", 4)], [])]),
                           (0, [(1, ["int"] * 256, [])])):
            self.raises(NoForm, {"why": "frame", "at": at}, fault_of, self.world, self.cls, "m", "(I)V", frames)
            self.raises(NoMethod, {}, fault_of, self.world, self.cls, "m", "(J)V", frames)

    def test_no_method(self):
        for function in (fault_of, frames_of):
            for name, descriptor in (("u", "()V"), ("n", "()V"), ("m", "()I"), ("o", "()V"), ("", ""), (None, None), (1, [])):
                self.raises(NoMethod, {}, function, self.world, self.cls, name, descriptor)
            for name in no_strings():
                self.raises(NoMethod, {}, function, self.world, self.cls, name, name)
            self.raises(NotDefined, {"cls": ("b", "A")}, function, self.world, ("b", "A"), "?", "?")
            self.raises(NotFound, {"name": "Lost", "word": MISSING}, function, self.world, ("a", "Lost"), "?", "?")
        self.raises(NoMethod, {}, frames_of, World({}), ("base", "Object"), "hashCode", "()I")

    def test_not_right(self):
        self.raises(NotRight, {"index": 0, "word": "depth"}, frames_of, self.world, self.cls, "m", "()V")
        self.assertEqual(frames_of(self.world, self.cls, "m", "(I)V"), [
            (("int", "top"), (), False), (("int", "top"), ("int",), False), (("int", "top"), (), False),
            (("int", "top"), (), False)])

    def test_frames_of_is_strict(self):
        rows = [("iconst", 1), ("newarray", "I"), ("areturn",)]
        told = method("m", descriptor="()LI;", body=Code(1, 1, rows, [], []))
        world = World({"a": {"A": file(methods=[told]), "I": face("I")}})
        self.assertIsNone(fault_of(world, self.cls, "m", "()LI;", loose=True))
        self.raises(NotRight, {"index": 2, "word": "sort"}, frames_of, world, self.cls, "m", "()LI;")

    def test_by_names(self):
        self.assertIsNone(fault_of(loose=True, frames=[(3, [], [])], descriptor="(I)V", method="m", cls=self.cls,
                                   world=self.world))
        self.assertEqual(len(frames_of(descriptor="(I)V", method="m", cls=self.cls, world=self.world)), 4)


class Bounds(JudgeCase):
    def test_many_rows(self):
        rows = []
        for _ in range(49):
            rows += [("lconst", 1), ("lstore", 253), ("lload", 253), ("pop2",)]
        rows += [("lload", 253), ("lreturn",)]
        self.fault(None, rows, room=2, places=255, descriptor="()J")
        self.fault(None, [("goto", k + 1) for k in range(199)] + [("goto", 0)], [(k, [], []) for k in range(200)], places=255)


if __name__ == "__main__":
    unittest.main()
