"""One method with a code, and the eyes with which it is looked at."""

from typegate.classes import Code
from typegate.errors import NoMethod
from typegate.loading import look_at_class
from typegate.types import fits


class Task:
    """A method of a class of a world, with its code, to be judged or to find frames for."""

    def __init__(self, world, cls, method, loose):
        self.world = world
        self.cls = cls
        self.method, self.descriptor, self.flags, self.code = method
        self.loose = loose

    def can_stand(self, one, other):
        """Return whether an entry fits another one, for the loader of the class."""
        # Most entries are equal, and fits looks at its arguments each time.
        return one == other or fits(self.world, self.cls[0], one, other, loose=self.loose)

    def own_entry(self):
        """Return the entry for objects of the class itself."""
        return ("object", self.cls[1])

    def parent_name(self):
        """Return the name of the parent of the class."""
        return self.world.file_of(self.cls).parent


def method_with_code(world, cls, name, descriptor):
    """Return the method of a class that loads well, as its ClassFile tells it; it must have a Code."""
    look_at_class(world, cls)
    for method in world.file_of(cls).methods:
        if method[0] == name and method[1] == descriptor and isinstance(method[3], Code):
            return method
    raise NoMethod()
