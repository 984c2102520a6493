"""[10.18], [10.20]: worlds of two or three loaders that are put together by chance, of which all classes are right."""

import random
import unittest

from helpers import face, file
from machining import body, init, new
from typegate.classes import Code
from typegate.errors import NoFrames
from typegate.finding import frames_found
from typegate.judge import judged
from typegate.loading import loading_error
from typegate.machine import Machine
from typegate.quarrels import can_quarrel
from typegate.worlds import World

X = "(LX;)LX;"


class Loaders(unittest.TestCase):
    """P, Q below it and D below that, the interfaces I and J, and X, whose objects are handed about."""

    def rows(self, source, local, parts):
        """Rows that hand about the X of a local, and give it."""
        told = {
            "put": [("aload", local), ("putstatic", "P", "f", "LX;")], "get": [("getstatic", "Q", "f", "LX;"), ("astore", local)],
            "use": [("aload", local), ("invokevirtual", "X", "x", "()V")], "own": [*new("X"), ("astore", local)],
            "static": [("aload", local), ("invokestatic", source.choice("PQ"), "s", X), ("astore", local)]}
        return [row for _ in range(parts) for row in told[source.choice(sorted(told))]] + [("aload", local), ("areturn",)]

    def interface(self, name, source):
        flags = source.choice([("public",), ("public", "abstract")])
        code = None if "abstract" in flags else body(self.rows(source, 1, 1))
        return face(name, ["J"] if name == "I" and source.random() < 0.5 else [], [("m", X, flags, code)] if source.random() < 0.8 else [])

    def below(self, name, parent, source):
        methods = [init(parent), ("s", X, ("public", "static"), body(self.rows(source, 0, 1)))]
        if source.random() < 0.7:
            methods.append(("m", X, ("public",), body(self.rows(source, 1, 2))))
        fields = [("f", "LX;", ("public", "static"), None)]
        return file(name, parent, source.choice([[], ["I"], ["J"], ["I", "J"]]), fields=fields, methods=methods)

    def main(self, source):
        rows = [*new("X"), ("astore", 0)]
        for _ in range(source.choice([1, 2, 3])):
            cls = source.choice("PQD")
            rows += source.choice([
                [*new(cls), ("aload", 0), ("invokevirtual", source.choice("PQD"[:"PQD".index(cls) + 1]), "m", X), ("astore", 0)],
                [*new(cls), ("aload", 0), ("invokeinterface", source.choice("IJ"), "m", X), ("astore", 0)],
                [("aload", 0), ("invokestatic", cls, "s", X), ("astore", 0)], [("aload", 0), ("putstatic", cls, "f", "LX;")],
                [("getstatic", cls, "f", "LX;"), ("astore", 0)]])
        rows += [("aload", 0), ("ifnull", len(rows) + 4), ("aload", 0), ("invokevirtual", "X", "x", "()V"), ("return",)]
        return rows

    def loaders(self, source):
        names = "abc"[:source.choice([2, 3])]
        made = {loader: {} for loader in names}
        own = ("x", "()V", ("public",), body([("return",)]))
        makers = {"X": lambda: file("X", methods=[init(), own]), "J": lambda: self.interface("J", source), "I": lambda: self.interface("I", source),
                  "P": lambda: self.below("P", "Object", source), "Q": lambda: self.below("Q", "P", source), "D": lambda: self.below("D", "Q", source)}
        for name, make in makers.items():
            owner = source.choice(names)
            for loader in names:
                if loader == owner or source.random() < 0.25:
                    made[loader][name] = make()
                elif source.random() < 0.95:
                    made[loader][name] = owner
        for loader in names:
            made[loader]["Main"] = file("Main", methods=[("go", "()V", ("public", "static"), body(self.main(source)))])
        return made

    def right_world(self, source):
        """A world of which all classes load well and are right, or None."""
        made = self.loaders(source)
        world = World(made)
        for loader in made:
            name, descriptor, flags, code = made[loader]["Main"].methods[0]
            try:
                frames = frames_found(world, (loader, "Main"), name, descriptor)
            except NoFrames:
                return None
            told = Code(code.stack, code.places, code.rows, [], frames)
            made[loader]["Main"] = file("Main", methods=[(name, descriptor, flags, told)])
        world = World(made)
        for cls in world.classes():
            if loading_error(world, cls) is not None or judged(world, cls) is not None:
                return None
        return world

    def test_only_where_loaders_can_quarrel_a_call_is_wrong(self):
        source = random.Random(11)
        found = {}
        for _ in range(350):
            world = self.right_world(source)
            if world is None:
                continue
            machine = Machine(world)
            for loader in ("a", "b"):
                outcome = machine.call(loader, "Main", "go", "()V", [], steps=500)
                key = (can_quarrel(world), *outcome[:2 if outcome[0] == "wrong" else 1])
                found[key] = found.get(key, 0) + 1
                if outcome[0] in ("wrong", "open"):
                    break
        self.assertNotIn((False, "wrong", "kind"), found)
        self.assertEqual([key for key in found if key[1] == "wrong"], [(True, "wrong", "kind")])
        self.assertGreater(found[True, "wrong", "kind"], 10)
        self.assertGreater(found[False, "returned"], 100)


if __name__ == "__main__":
    unittest.main()
