"""What a machine keeps: objects, static fields, and which classes have been begun."""

from typegate.base import is_base_name
from typegate.halts import OutOfRoom
from typegate.names import type_name_of
from typegate.resolving import answer

MOST_OBJECTS = 10000
MOST_ITEMS = 1000
CLASS = ("base", "Class")
STRING = ("base", "String")


def default_of(descriptor):
    """Return what a field or an item of a descriptor is at first."""
    return 0 if type_name_of(descriptor) is None else None


def _copied_fields(fields):
    return {member: fields[member] for member in fields}


class Thing:
    """An object: its class or array, and what it holds."""

    def __init__(self, actual):
        self.actual = actual
        self.raw = False
        self.fields = {}
        self.cells = None
        # The text of a String, or the class or array of a Class.
        self.meaning = None
        self.entered = 0

    def copied(self):
        """Return another object with the same in it."""
        thing = Thing(self.actual)
        thing.raw = self.raw
        thing.fields = _copied_fields(self.fields)
        thing.cells = None if self.cells is None else list(self.cells)
        thing.meaning = self.meaning
        thing.entered = self.entered
        return thing


class Memory:
    """All that a machine keeps from call to call."""

    def __init__(self, world):
        self.world = world
        self.stopped = False
        self.static_values = {}
        self.begun = {}
        self._things = []
        self._numbers = {}
        self._answers = {}

    def copied(self):
        """Return another one with the same in it."""
        other = Memory(self.world)
        other.stopped = self.stopped
        other.static_values = {member: self.static_values[member] for member in self.static_values}
        other.begun = {cls: self.begun[cls] for cls in self.begun}
        numbers = {key: self._numbers[key] for key in self._numbers}
        other.take_things([thing.copied() for thing in self._things], numbers)
        return other

    def take_things(self, things, numbers):
        """Take objects, and the numbers of Strings and Classes among them, from another memory."""
        self._things = things
        self._numbers = numbers

    def thing(self, reference):
        """Return the object of a reference."""
        return self._things[reference[1] - 1]

    def has(self, number):
        """Return whether there is an object with this number."""
        return 1 <= number <= len(self._things)

    def made(self, actual):
        """Return the reference of a new object without any fields."""
        if len(self._things) == MOST_OBJECTS:
            raise OutOfRoom()
        self._things.append(Thing(actual))
        return ("ref", len(self._things))

    def made_object(self, cls):
        """Return the reference of a new object of a class, with all its fields."""
        reference = self.made(cls)
        fields = self.thing(reference).fields
        for one in self.world.lineage.line_of(cls):
            for name, descriptor, flags, _ in self.world.file_of(one).fields:
                if "static" not in flags:
                    member = (*one, name, descriptor)
                    fields[member] = default_of(descriptor)
        return reference

    def made_array(self, actual, many):
        """Return the reference of a new array with so many items."""
        if many > MOST_ITEMS:
            raise OutOfRoom()
        reference = self.made(actual)
        thing = self.thing(reference)
        thing.cells = [default_of(actual[1][1:])] * many
        return reference

    def made_copy(self, reference):
        """Return the reference of a new object with the same fields or items."""
        thing = self.thing(reference)
        reference = self.made(thing.actual)
        other = self.thing(reference)
        other.fields = _copied_fields(thing.fields)
        other.cells = None if thing.cells is None else list(thing.cells)
        return reference

    def string(self, text):
        """Return the reference of the String of a text."""
        return self._only_one(STRING, text)

    def class_object(self, actual):
        """Return the reference of the Class of a class or array."""
        return self._only_one(CLASS, actual)

    def _only_one(self, cls, told):
        key = (cls, told)
        if key not in self._numbers:
            reference = self.made(cls)
            thing = self.thing(reference)
            thing.meaning = told
            self._numbers[key] = reference
        return self._numbers[key]

    def static_value(self, member):
        """Return the value of a static field."""
        return self.static_values[member] if member in self.static_values else default_of(member[3])

    def state_of(self, cls):
        """Return whether a class is "running", "done" or "broken", or None if it is not begun."""
        return "done" if is_base_name(cls[1]) else self.begun.get(cls)

    def answer_to(self, user, method, row):
        """Return what an instruction of a method of a class asks for and is told."""
        key = (user, method, row)
        if key not in self._answers:
            self._answers[key] = answer(self.world, user, method, row)
        return self._answers[key]
