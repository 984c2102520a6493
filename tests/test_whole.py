"""What holds of the whole program: [1.3], and the interface of the document."""

import ast
import importlib
import inspect
import itertools
import unittest
from pathlib import Path

from helpers import ErrorCase, code, face, file
from machining import init, made, new
from typegate import errors
from typegate.classes import ClassFile, Code, Uncut
from typegate.demands import all_demands, class_demands, names_of, use_demands
from typegate.errors import NoReference, NoRow, NotDefined, NotFound, NoType
from typegate.files import read, written
from typegate.finding import frames_found, needed
from typegate.judge import fault_of, frames_of, judged
from typegate.loading import interfaces_of, line
from typegate.machine import Machine
from typegate.names import parameters
from typegate.quarrels import can_quarrel, is_quarrel, quarrel
from typegate.resolving import asked, resolved_field, resolved_method, resolved_type
from typegate.selecting import called, overrides
from typegate.texts import text_bytes
from typegate.types import fits, least
from typegate.worlds import World

INTERFACE = {
    "names": ["is_name(thing)", "is_class_name(thing)", "parameters(descriptor)", "result(descriptor)"],
    "classes": ["ClassFile(name, parent, interfaces, flags, fields, methods)", "Code(stack, places, rows, handlers, frames)", "Uncut(why, at)"],
    "forms": ["fault(file)"], "texts": ["text_bytes(text)", "bytes_text(data)"], "files": ["read(data)", "written(file)"],
    "worlds": ["World(loaders)", "World.file_of(cls)"],
    "types": ["fits(world, loader, one, other, *, loose=False)", "least(world, loader, one, other)"],
    "judge": ["judged(world, cls)", "fault_of(world, cls, method, descriptor, frames=None, *, loose=False)",
              "frames_of(world, cls, method, descriptor)"],
    "finding": ["needed(code)", "frames_found(world, cls, method, descriptor)"],
    "loading": ["denoted(world, loader, name)", "loading_error(world, cls)", "line(world, cls)", "interfaces_of(world, cls)",
                "is_below(world, one, other)"],
    "resolving": ["resolved_type(world, user, name)", "resolved_field(world, user, reference)", "resolved_method(world, user, reference)",
                  "asked(world, user, method, row)"],
    "selecting": ["overrides(world, member, other)", "called(world, user, method, row, actual)"],
    "machine": ["Machine(world)", "Machine.call(loader, name, method, descriptor, arguments, *, steps=10000)",
                "Machine.seen(loader, name, method, descriptor, arguments, *, steps=10000)", "Machine.sort_of(reference)",
                "Machine.is_raw(reference)", "Machine.held(reference)", "Machine.statics(loader, name)", "Machine.stands(cls, entry, place)"],
    "demands": ["names_of(descriptor)", "use_demands(world, user, method, row)", "class_demands(world, cls)", "all_demands(world)"],
    "quarrels": ["quarrel(world)", "can_quarrel(world)", "is_quarrel(world, thing)"],
}
PACKAGE = Path(__file__).resolve().parent.parent / "typegate"


class Interface(unittest.TestCase):
    def test_signatures(self):
        for module, told in INTERFACE.items():
            for one in told:
                name = one.split("(")[0]
                thing = importlib.import_module("typegate." + module)
                for part in name.split("."):
                    thing = getattr(thing, part)
                found = str(inspect.signature(thing)).replace("(self, ", "(")
                self.assertEqual(found, one[len(name):], one)

    def test_each_is_defined_in_its_file(self):
        for module, told in INTERFACE.items():
            tree = ast.parse((PACKAGE / (module + ".py")).read_text(encoding="ascii"))
            own = {node.name: node for node in tree.body if isinstance(node, (ast.FunctionDef, ast.ClassDef))}
            for one in told:
                names = one.split("(")[0].split(".")
                self.assertIn(names[0], own)
                if len(names) == 2:
                    self.assertIn(names[1], [getattr(node, "name", None) for node in own[names[0]].body])

    def test_errors(self):
        told = ("NoDescriptor() NoForm(why,at) NoWorld(loader,name) NotDefined(cls) NoLoader(loader) NoEntry(entry) NotFound(name,word) NoMethod()"
                " NotRight(index,word) NoCode() NoFrames(index,word) NoBytes() NoClass(at,why) NoText() NoFile() NoWriting(why,method)"
                " NoMember(member) NoReference(reference) NoType(name) NoRow(row) NoCall(why)")
        for one in told.split():
            name, arguments = one[:-1].split("(")
            cls = getattr(errors, name)
            self.assertEqual(cls.__bases__, (errors.TypegateError,))
            names = arguments.split(",") if arguments else []
            self.assertEqual(vars(cls(*names)), {key: key for key in names})
        self.assertEqual(errors.TypegateError.__bases__, (ValueError,))

    def test_all_errors_of_the_package(self):
        for path in sorted(PACKAGE.glob("*.py")):
            module = importlib.import_module("typegate." + path.stem)
            for thing in vars(module).values():
                if inspect.isclass(thing) and issubclass(thing, Exception) and thing is not errors.TypegateError:
                    self.assertEqual(thing.__bases__, (errors.TypegateError,))


class ByNames(ErrorCase):
    """Each function, method and class called by names alone, in two orders, and by position."""

    def arguments(self):
        rows = [("aconst_null",), ("invokestatic", "T", "m", "(LX;)V"), ("return",)]
        told = file("A", "Object", ["I"], methods=[made("go", rows), init(), ("v", "()V", ("public",), code(places=1))])
        world = World({"a": {"A": told, "T": "b", "X": file("X"), "I": face("I")},
                       "b": {"T": file("T", methods=[made("m", [("return",)], "(LX;)V")]), "X": file("X")}})
        own = dict(world=world, cls=("a", "A"), user=("a", "A"), loader="a", name="A", method="go", descriptor="()V", thing=("X", ("a", "b")),
                   row=rows[1], actual=("a", "A"), member=("a", "A", "v", "()V"), other=("a", "A", "v", "()V"), one=("a", "A"),
                   file=told, data=written(told), text="ab", code=told.methods[0][3], arguments=[], reference=("A", "v", "()V"),
                   loaders={"a": {"A": told}}, frames=[], steps=7, loose=True, entry="null", place=None)
        more = {"fits": dict(one="null", other=("object", "A")), "least": dict(one="null", other=("object", "A")), "bytes_text": dict(data=[65]),
                "is_below": dict(one=("a", "A"), other=("a", "I")), "sort_of": dict(reference=("ref", 1)), "is_raw": dict(reference=("ref", 1)),
                "held": dict(reference=("ref", 1)), "is_name": dict(thing="A"), "is_class_name": dict(thing="A"),
                "Code": dict(stack=1, places=1, rows=rows, handlers=[], frames=[]), "Uncut": dict(why="map", at=0),
                "ClassFile": dict(name="A", parent=None, interfaces=[], flags=[], fields=[], methods=[])}
        return own, more

    def plain(self, answer):
        return answer.rows if isinstance(answer, Code) else vars(answer) if isinstance(answer, Uncut) else answer

    def test_them(self):
        own, more = self.arguments()
        for module, told in INTERFACE.items():
            for one in told:
                names = one.split("(")[0].split(".")
                thing = getattr(importlib.import_module("typegate." + module), names[0])
                if len(names) == 2:
                    thing = getattr(self.object(names[0], own["world"]), names[1])
                parts = inspect.signature(thing).parameters
                known = {**own, **more.get(names[-1], {})}
                given = {name: known[name] for name in parts}
                positions = [given[name] for name in parts if parts[name].kind != inspect.Parameter.KEYWORD_ONLY]
                rest = {name: given[name] for name in parts if parts[name].kind == inspect.Parameter.KEYWORD_ONLY}
                answers = [thing(*positions, **rest), thing(**given), thing(**{name: given[name] for name in reversed(list(given))})]
                if names[-1] not in ("World", "Machine"):
                    self.assertTrue(self.plain(answers[0]) == self.plain(answers[1]) == self.plain(answers[2]), one)

    def object(self, name, world):
        if name == "World":
            return world
        machine = Machine(World({"a": {"A": file("A", methods=[made("go", [("string", "x"), ("pop",), ("return",)])])}}))
        machine.call("a", "A", "go", "()V", [])
        return machine


class Kept(ErrorCase):
    """Lists and dicts that are emptied behind each call, and what is told of them afterwards."""

    def test_files_and_codes(self):
        pairs, rows, handlers, places, frames = [(1, 0)], [], [(0, 1, 1, None)], ["int"], []
        rows += [("switch", pairs, 1), ("return",)]
        frames.append((1, places, []))
        made_code = Code(1, 1, rows, handlers, frames)
        flags, faces = ["public"], ["I"]
        fields, methods = [("f", "I", ["static"], 1)], [("m", "()V", flags, made_code)]
        told = ClassFile("A", "Object", faces, flags, fields, methods)
        same = ClassFile("A", "Object", ("I",), ("public",), (("f", "I", ("static",), 1),), (("m", "()V", ("public",), Code(
            1, 1, (("switch", ((1, 0),), 1), ("return",)), ((0, 1, 1, None),), ((1, ("int",), ()),))),))
        for one in (pairs, rows, handlers, places, frames, flags, faces, fields, methods):
            one.clear()
        self.assertTrue(told == same)

    def test_worlds(self):
        answers = {"A": file("A")}
        loaders = {"a": answers}
        world = World(loaders)
        answers.clear()
        loaders.clear()
        self.assertIsNone(judged(world, ("a", "A")))
        self.assertEqual(line(world, ("a", "A")), [("a", "A"), ("base", "Object")])

    def test_machines(self):
        array = [("iconst", 1), ("newarray", "I"), ("areturn",)]
        machine = Machine(World({"a": {"A": file(methods=[made("m", array, "()[I"), made("n", [("iload", 0), ("ireturn",)], "(I)I")])}}))
        arguments = [3]
        self.assertEqual(machine.call("a", "A", "n", "(I)I", arguments), ("returned", 3))
        self.assertEqual(arguments, [3])

    def test_answers_are_new(self):
        world = self.world()
        cls = ("a", "A")
        row = ("invokestatic", "T", "m", "(LX;)V")
        for ask in (lambda: parameters("(II)V"), lambda: text_bytes("ab"), lambda: needed(Code(1, 1, [("goto", 0)], [], [])),
                    lambda: frames_of(world, cls, "go", "()V"), lambda: line(world, cls), lambda: interfaces_of(world, cls),
                    lambda: names_of("LX;"), lambda: use_demands(world, cls, "go", row), lambda: class_demands(world, cls) or [1],
                    lambda: all_demands(world), lambda: written(world.file_of(cls))):
            first = ask()
            copy = list(first)
            first.clear()
            self.assertEqual(ask(), copy)

    def world(self):
        rows = [("aconst_null",), ("invokestatic", "T", "m", "(LX;)V"), ("return",)]
        return World({"a": {"A": file("A", "Object", ["I"], methods=[made("go", rows)]), "T": "b", "X": file("X"), "I": face("I")},
                      "b": {"T": file("T", methods=[made("m", [("return",)], "(LX;)V")]), "X": file("X")}})


class Order(ErrorCase):
    def test_keys_of_dicts(self):
        static = ("public", "static")
        answers = {"A": file("A", "P", ["I"], methods=[made("go", [*new("B"), ("pop",), ("aconst_null",), ("invokestatic", "T", "m", "(LX;)V"),
                                                              ("return",)])]),
                   "P": file("P"), "B": file("B", methods=[init()]), "I": face("I"), "T": "b", "X": file("X")}
        other = {"T": file("T", methods=[("m", "(LX;)V", static, code(places=1))]), "X": file("X")}
        found = set()
        for names in itertools.permutations(sorted(answers), 6):
            if names[0] < names[-1]:
                continue
            mixed = {name: answers[name] for name in names}
            for loaders in ({"a": mixed, "b": other}, {"b": other, "a": mixed}):
                world = World(loaders)
                found.add((tuple(all_demands(world)), quarrel(world), judged(world, ("a", "A")),
                           Machine(world).call("a", "A", "go", "()V", [])))
        self.assertEqual(found, {((("X", "a", "b"),), ("X", ("a", "b")), None, ("returned",))})


class WrongArguments(ErrorCase):
    """At each place a wrong argument, with all later ones wrong, too: the first one is told."""

    def test_them(self):
        world = World({"a": {"A": file("A"), "Bad": file("Bad", "Gone")}})
        user, bad, lost = ("a", "A"), ("a", "Bad"), {"name": "Bad", "word": "NoClassDefFoundError"}
        for find, error, told in ((resolved_type, NoType, {"name": 7}), (resolved_field, NoReference, {"reference": 7}),
                                  (resolved_method, NoReference, {"reference": 7})):
            self.raises(NotDefined, {"cls": 7}, find, world, 7, 7)
            self.raises(NotFound, lost, find, world, bad, 7)
            self.raises(error, told, find, world, user, 7)
        for find in (asked, use_demands):
            self.raises(NotDefined, {"cls": 7}, find, world, 7, 7, 7)
            self.raises(NotFound, lost, find, world, bad, 7, 7)
            self.raises(NoRow, {"row": 7}, find, world, user, 7, 7)
        self.raises(NotDefined, {"cls": 7}, called, world, 7, 7, 7, 7)
        self.raises(NoRow, {"row": 7}, called, world, user, 7, 7, 7)
        self.raises(NotDefined, {"cls": 7}, called, world, user, 7, ("invokevirtual", "A", "m", "()V"), 7)
        for find in (line, interfaces_of, class_demands, judged):
            self.raises(NotDefined, {"cls": 7}, find, world, 7)
            self.raises(NotFound, lost, find, world, bad)
        for find in (fault_of, frames_of, frames_found):
            self.raises(NotDefined, {"cls": 7}, find, world, 7, 7, 7)
            self.raises(NotFound, lost, find, world, bad, 7, 7)
            self.raises(errors.NoMethod, {}, find, world, user, 7, 7)
        for find in (fits, least):
            self.raises(errors.NoLoader, {"loader": 7}, find, world, 7, 7, 8)
            self.raises(errors.NoEntry, {"entry": 7}, find, world, "a", 7, 8)
            self.raises(errors.NoEntry, {"entry": 8}, find, world, "a", "top", 8)
        self.raises(errors.NoMember, {"member": 7}, overrides, world, 7, 8)
        self.raises(errors.NoMember, {"member": 8}, overrides, World({"a": {"A": file(methods=[init()])}}), ("a", "A", "<init>", "()V"), 8)


class Apart(ErrorCase):
    def test_worlds_do_not_touch_one_another(self):
        told = file("A", methods=[made("go", [*new("B"), ("areturn",)], "()LB;")])
        one = World({"a": {"A": told, "B": file("B", methods=[init()])}})
        other = World({"a": {"A": told}})
        self.assertIs(can_quarrel(one), False)
        first, second = Machine(one), Machine(other)
        self.assertEqual(first.call("a", "A", "go", "()LB;", []), ("returned", ("ref", 1)))
        self.assertEqual(second.call("a", "A", "go", "()LB;", []), ("thrown", ("ref", 1)))
        self.assertEqual((first.sort_of(("ref", 1)), second.sort_of(("ref", 1))), (("a", "B"), ("base", "NoClassDefFoundError")))

    def test_equal_calls_tell_equal_things(self):
        told = file("A", methods=[made("go", [*new("A"), ("areturn",)], "()LA;"), init()])
        world = World({"a": {"A": told}})
        machine, other = Machine(world), Machine(World({"a": {"A": read(written(told))}}))
        for _ in range(3):
            self.assertEqual(machine.call("a", "A", "go", "()LA;", []), other.call("a", "A", "go", "()LA;", []))
        self.assertEqual(is_quarrel(world, ("A", ("a", "b"))), False)

    def test_integers_that_are_bools(self):
        world = World({"a": {"A": file("A", methods=[made("m", [("return",)], "(I)V")])}})
        self.raises(errors.NoCall, {"why": "arguments"}, Machine(world).call, "a", "A", "m", "(I)V", [True])
        self.raises(errors.NoForm, {"why": "instruction", "at": 0}, Code, 1, 1, [("iconst", True)], [], [])
        self.raises(errors.NoForm, {"why": "uncut", "at": -1}, Uncut, "map", False)
        self.raises(errors.NoBytes, {}, read, [True])


if __name__ == "__main__":
    unittest.main()
