"""Worlds: the loaders, and the classes that they define."""

from typegate.base import base_files, is_base_name
from typegate.classes import ClassFile
from typegate.errors import NotDefined, NoWorld
from typegate.kinds import is_tuple_of
from typegate.lineage import Lineage
from typegate.names import is_class_name

LONGEST_LOADER = 10


class World:
    """Loaders with their answers; the loader "base" is always among them."""

    def __init__(self, loaders):
        _look_at_loaders(loaders)
        _look_at_answers(loaders)
        self._loaders = ("base", *loaders)
        self._files = {("base", name): file for name, file in base_files().items()}
        self._asked = {}
        for loader in loaders:
            for name, answer in loaders[loader].items():
                if isinstance(answer, ClassFile):
                    self._files[loader, name] = answer
                else:
                    self._asked[loader, name] = answer
        self.lineage = Lineage(self)

    def file_of(self, cls):
        """Return the ClassFile of a class."""
        if not _is_pair_of_strings(cls) or cls not in self._files:
            raise NotDefined(cls)
        return self._files[cls]

    def classes(self):
        """Return the list of all classes."""
        return list(self._files)

    def has_loader(self, thing):
        """Return whether any object is the name of a loader."""
        return thing in self._loaders

    def class_for(self, loader, name):
        """Return the class that a class name denotes for a loader, or None."""
        while (loader, name) in self._asked:
            loader = self._asked[loader, name]
        if (loader, name) in self._files:
            return (loader, name)
        return ("base", name) if is_base_name(name) else None


def _is_pair_of_strings(thing):
    return is_tuple_of(thing, 2) and isinstance(thing[0], str) and isinstance(thing[1], str)


def _look_at_loaders(loaders):
    for loader in _ascending(loaders):
        if not _is_loader_name(loader):
            raise NoWorld(loader, None)


def _look_at_answers(loaders):
    for loader in _ascending(loaders):
        for name in _ascending(loaders[loader]):
            if not _is_right_answer(loaders, loader, name):
                raise NoWorld(loader, name)


def _ascending(keys):
    return sorted(list(keys), key=_shown)


def _shown(thing):
    """Return the repr of a key, or "" if Python tells none."""
    # Within a tuple str shows a thing by its repr; both refuse an integer of more than 4300 digits.
    try:
        return str((thing,))[1:-2]
    except ValueError:
        return ""


def _is_loader_name(thing):
    if not isinstance(thing, str) or not 1 <= len(thing) <= LONGEST_LOADER:
        return False
    return all(["a" <= sign <= "z" for sign in thing])


def _is_right_answer(loaders, loader, name):
    if not is_class_name(name):
        return False
    answer = loaders[loader][name]
    if isinstance(answer, ClassFile):
        return not is_base_name(name)
    if loader == "base" or not _is_loader(loaders, answer):
        return False
    return not _comes_into_a_ring(loaders, loader, name)


def _is_loader(loaders, thing):
    return isinstance(thing, str) and (thing == "base" or thing in loaders)


def _comes_into_a_ring(loaders, loader, name):
    """Return whether asking from this loader never ends."""
    asked = {}
    while loader not in asked:
        asked[loader] = True
        answer = loaders.get(loader, {}).get(name)
        if not _is_loader(loaders, answer):
            return False
        loader = answer
    return True
