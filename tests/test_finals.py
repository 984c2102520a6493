"""Final methods that are overridden: [9.2] with [9.10]."""

import itertools
import unittest

from helpers import ErrorCase, code, file
from typegate.loading import loading_error
from typegate.worlds import World

CHANGE = "IncompatibleClassChangeError"
ROOM = code(places=9)


def method(*flags, name="m", descriptor="()V"):
    return (name, descriptor, flags, None if "abstract" in flags or "native" in flags else ROOM)


class FinalCase(ErrorCase):
    def classes(self, *told):
        """A world of one line: names and their methods, from the top downwards; "." parts a loader from a name."""
        loaders = {"a": {}, "b": {}}
        parent = "Object"
        for name, methods in told:
            loader, bare = name.split(".") if "." in name else ("a", name)
            for other in loaders:
                loaders[other][bare] = loader
            loaders[loader][bare] = file(bare, parent, methods=methods)
            parent = bare
        return World(loaders)

    def last_one(self, expected, *told):
        world = self.classes(*told)
        for number, (name, _) in enumerate(told):
            cls = tuple(name.split(".")) if "." in name else ("a", name)
            self.assertEqual(loading_error(world, cls), expected if number == len(told) - 1 else None, told)


class Directly(FinalCase):
    def test_overridden(self):
        for flags in (["public", "final"], ["protected", "final"], ["final"], ["public", "final", "synchronized"],
                      ["public", "final", "native"]):
            for own in (["public"], ["protected"], [], ["public", "final"], ["abstract"], ["native"]):
                self.last_one(CHANGE, ("P", [method(*flags)]), ("A", [method(*own)]))

    def test_not_overridden(self):
        for flags, own in ((["private", "final"], ["public"]), (["static", "final"], ["public"]),
                           (["public", "final"], ["private"]), (["public", "final"], ["static"]),
                           (["public", "final", "static"], ["static"]), (["private", "final"], ["private"]),
                           (["public"], ["public"]), (["public"], ["public", "final"])):
            self.last_one(None, ("P", [method(*flags)]), ("A", [method(*own)]))

    def test_another_method(self):
        held = [method("public", "final")]
        for other in (method("public", name="n"), method("public", descriptor="()I"), method("public", descriptor="(I)V"),
                      method("public", name="M")):
            self.last_one(None, ("P", held), ("A", [other]))
        self.last_one(None, ("P", held), ("A", []))

    def test_one_of_several(self):
        above = [method("public", name="n"), method("public", "final"), method("public", descriptor="(I)V")]
        self.last_one(CHANGE, ("P", above), ("A", [method("public", name="n"), method("public")]))
        self.last_one(None, ("P", above), ("A", [method("public", name="n"), method("public", descriptor="(I)V")]))

    def test_init_and_clinit(self):
        self.last_one(None, ("P", [method("public", name="<init>")]), ("A", [method("public", name="<init>")]))
        self.last_one(None, ("P", [method("static", name="<clinit>")]), ("A", [method("static", name="<clinit>")]))

    def test_methods_of_object(self):
        for name, descriptor in (("hashCode", "()I"), ("equals", "(LObject;)Z"), ("clone", "()LObject;")):
            self.last_one(None, ("A", [method("public", name=name, descriptor=descriptor)]))


class Packages(FinalCase):
    def test_another_package(self):
        for above, own, expected in (("p/P", "p/A", CHANGE), ("p/P", "q/A", None), ("P", "p/A", None), ("p/P", "A", None),
                                     ("p/q/P", "p/A", None), ("p/q/P", "p/q/A", CHANGE)):
            self.last_one(expected, (above, [method("final")]), (own, [method("public")]))
            for word in ("public", "protected"):
                self.last_one(CHANGE, (above, [method("final", word)]), (own, [method("public")]))
            self.last_one(None, (above, [method("final", "private")]), (own, [method("public")]))

    def test_another_loader(self):
        for package in ("", "p/"):
            self.last_one(None, ("b." + package + "P", [method("final")]), ("a." + package + "A", [method("public")]))
            self.last_one(CHANGE, ("b." + package + "P", [method("final")]), ("b." + package + "A", [method("public")]))
            self.last_one(CHANGE, ("b." + package + "P", [method("final", "public")]),
                          ("a." + package + "A", [method("public")]))


class OverClasses(FinalCase):
    def test_a_class_between_that_does_not_declare_it(self):
        self.last_one(CHANGE, ("P", [method("public", "final")]), ("B", []), ("C", []), ("A", [method("public")]))
        self.last_one(CHANGE, ("p/P", [method("final")]), ("q/B", []), ("p/A", [method("public")]))
        self.last_one(None, ("p/P", [method("final")]), ("p/B", []), ("q/A", [method("public")]))

    def test_a_class_between_that_declares_another_one(self):
        for between in (method("private"), method("static"), method("public", descriptor="()I")):
            self.last_one(None, ("p/P", [method("final")]), ("q/B", [between]), ("q/A", [method("public")]))
            self.last_one(CHANGE, ("p/P", [method("final")]), ("q/B", [between]), ("p/A", [method("public")]))

    def test_a_final_one_between(self):
        self.last_one(CHANGE, ("P", [method("public")]), ("B", [method("public", "final")]), ("A", [method("public")]))
        self.last_one(CHANGE, ("P", [method("public")]), ("B", [method("public", "final")]), ("C", []),
                      ("A", [method("public")]))

    def test_over_a_method_between(self):
        # q/B's overrides nothing, so r/A's overrides it alone.
        self.last_one(None, ("p/P", [method("final")]), ("q/B", [method("public")]), ("r/A", [method("public")]))
        # p/A's is in the package of p/P's, whatever stands between.
        self.last_one(CHANGE, ("p/P", [method("final")]), ("q/B", [method("public")]), ("p/A", [method("public")]))

    def test_the_error_is_that_of_the_class_between(self):
        world = self.classes(("p/P", [method("final")]), ("p/B", [method("public")]), ("r/A", [method("public")]),
                             ("r/C", []))
        self.assertEqual([loading_error(world, ("a", name)) for name in ("p/P", "p/B", "r/A", "r/C")],
                         [None, CHANGE, CHANGE, CHANGE])


class LongLines(FinalCase):
    def test_twenty_classes(self):
        names = ["pq"[k & 1] + "/A" + str(k) for k in range(20)]
        told = [(name, [method()]) for name in names]
        self.last_one(None, *told)
        told[18] = (names[18], [method("final")])
        self.last_one(None, *told)
        self.last_one(CHANGE, *told, ("p/B", [method()]))
        told[0] = (names[0], [method("static", "final")])
        told[18] = (names[18], [method()])
        self.last_one(None, *told)


def overrides(line, m, p):
    """[9.10], word by word: whether the method of one place of a line overrides that of a place behind it."""
    flags, held = line[m][1], line[p][1]
    if flags is None or held is None or {"private", "static"} & (set(flags) | set(held)):
        return False
    if "public" in held or "protected" in held or line[m][0] == line[p][0]:
        return True
    return any(overrides(line, m, k) and overrides(line, k, p) for k in range(m + 1, p))


class AllSmallLines(FinalCase):
    """Each line of four classes in two packages: its first error is that of the first class that overrides a final one."""

    def test_them(self):
        kinds = [None, (), ("final",), ("public",), ("private", "final"), ("static",)]
        places = [(package, flags) for package in ("p", "q") for flags in kinds]
        for told in itertools.product(places, places, places, [("p", ("public",)), ("q", ()), ("q", ("final",))]):
            line = list(reversed(told))
            expected = [any("final" in line[p][1] for p in range(m + 1, 4) if overrides(line, m, p)) for m in range(4)]
            world = self.classes(*[(package + "/" + "ABCD"[k], [method(*flags)] if flags is not None else [])
                                   for k, (package, flags) in enumerate(told)])
            found = [loading_error(world, ("a", package + "/" + "ABCD"[3 - k])) for k, (package, _) in enumerate(line)]
            self.assertEqual(found, [CHANGE if any(expected[m:]) else None for m in range(4)], told)


if __name__ == "__main__":
    unittest.main()
