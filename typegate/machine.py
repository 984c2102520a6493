"""The plain machine: it runs the methods of a world, and looks at nothing ahead."""

from typegate.classes import Code
from typegate.entries import is_entry
from typegate.errors import NoCall
from typegate.halts import OutOfRoom, OutOfSteps, Wrong
from typegate.instructions import BOUNDS
from typegate.kin import is_known, is_of, object_fits
from typegate.kinds import is_integer, is_row, is_tuple_of, is_within
from typegate.loading import denoted, loading_error
from typegate.memory import STRING, Memory
from typegate.names import parameters, type_name_of
from typegate.running import Run
from typegate.taking import is_number, is_reference, places_for
from typegate.texts import is_text
from typegate.types import MOST_MADE

MOST_STEPS = 100000


class Machine:
    """The objects and classes of a world that runs."""

    def __init__(self, world):
        self._memory = Memory(world)

    def call(self, loader, name, method, descriptor, arguments, *, steps=10000):
        """Run a method, and return what comes of it."""
        called = _look_at_call(self._memory, loader, name, method, descriptor, arguments, steps)
        return _made_call(self._memory, called, arguments, steps, None)

    def seen(self, loader, name, method, descriptor, arguments, *, steps=10000):
        """Return what stands where ahead of the first steps of a call, which is made on a copy of the machine."""
        called = _look_at_call(self._memory, loader, name, method, descriptor, arguments, steps)
        watched = []
        _made_call(self._memory.copied(), called, arguments, steps, watched)
        return watched

    def sort_of(self, reference):
        """Return the class or array of an object."""
        return self._thing(reference).actual

    def is_raw(self, reference):
        """Return whether an object is raw."""
        return self._thing(reference).raw

    def held(self, reference):
        """Return the fields or items of an object, a String's text, or a Class's class or array."""
        thing = self._thing(reference)
        if thing.cells is not None:
            return list(thing.cells)
        if thing.meaning is not None:
            return thing.meaning
        return {member: thing.fields[member] for member in thing.fields}

    def _thing(self, reference):
        if not _is_object(self._memory, reference):
            raise NoCall("reference")
        return self._memory.thing(reference)

    def statics(self, loader, name):
        """Return a dict from the static fields that a class declares to their values."""
        cls = _class_of(self._memory.world, loader, name)
        members = []
        for field, descriptor, flags, _ in self._memory.world.file_of(cls).fields:
            if "static" in flags:
                members.append((*cls, field, descriptor))
        return {member: self._memory.static_value(member) for member in members}

    def stands(self, cls, entry, place):
        """Return whether a place is as an entry of a frame says, seen by a class."""
        # This one refuses what is no class of the world.
        self._memory.world.file_of(cls)
        if not is_entry(entry, MOST_MADE) or not _is_place(self._memory, place):
            return False
        if entry == "top":
            return True
        if entry in ("int", "long"):
            return is_number(place, entry)
        if place is None:
            return entry == "null" or entry[0] == "object"
        if entry == "null" or not is_reference(place):
            return False
        thing = self._memory.thing(place)
        if entry[0] != "object":
            return thing.raw
        return not thing.raw and object_fits(self._memory.world, cls[0], thing.actual, entry[1])


def _is_object(memory, thing):
    """Return whether any object is the reference of an object of a machine."""
    return is_tuple_of(thing, 2) and thing[0] == "ref" and is_integer(thing[1]) and memory.has(thing[1])


def _is_place(memory, thing):
    """Return whether any object tells a place."""
    if thing is None or isinstance(thing, str):
        return thing is None or thing in ("unset", "half")
    if is_tuple_of(thing, 2) and thing[0] in ("int", "long"):
        low, high = BOUNDS[thing[0]]
        return is_within(thing[1], low, high)
    return _is_object(memory, thing)


def _class_of(world, loader, name):
    """Return the class that a name denotes, if it loads well."""
    if not world.has_loader(loader):
        raise NoCall("loader")
    found = denoted(world, loader, name)
    if found is None or loading_error(world, found) is not None:
        raise NoCall("class")
    return found


def _look_at_call(memory, loader, name, method, descriptor, arguments, steps):
    """Return the method that a call runs, as a member; raise NoCall for what is wrong first."""
    if memory.stopped:
        raise NoCall("stopped")
    cls = _class_of(memory.world, loader, name)
    flags = _flags_of_called(memory.world, cls, method, descriptor)
    if flags is None:
        raise NoCall("method")
    is_static = "static" in flags
    if not is_row(arguments) or not _are_right(memory, cls, descriptor, is_static, arguments):
        raise NoCall("arguments")
    if not is_within(steps, 1, MOST_STEPS):
        raise NoCall("steps")
    return (*cls, method, descriptor)


def _flags_of_called(world, cls, method, descriptor):
    """Return the flags of a method with a Code that may be called from outside, or None."""
    for name, told, flags, code in world.file_of(cls).methods:
        if name == method and told == descriptor and isinstance(code, Code) and name not in ("<init>", "<clinit>"):
            return flags
    return None


def _are_right(memory, cls, descriptor, is_static, arguments):
    """Return whether a row has just the values that a method takes."""
    sorts = parameters(descriptor)
    own = 0 if is_static else 1
    if len(arguments) != own + len(sorts):
        return False
    if not is_static and not _is_own_object(memory, cls, arguments[0]):
        return False
    return all([_is_value(memory, cls[0], sort, value) for sort, value in zip(sorts, arguments[own:])])


def _is_own_object(memory, cls, thing):
    if not _is_object(memory, thing) or memory.thing(thing).raw:
        return False
    return is_of(memory.world, memory.thing(thing).actual, cls)


def _is_value(memory, loader, descriptor, thing):
    name = type_name_of(descriptor)
    if name is None:
        low, high = BOUNDS["long" if descriptor == "J" else "int"]
        return is_within(thing, low, high)
    if thing is None:
        return True
    if not is_known(memory.world, loader, descriptor):
        return False
    if isinstance(thing, str):
        return is_text(thing) and object_fits(memory.world, loader, STRING, name)
    if not _is_object(memory, thing) or memory.thing(thing).raw:
        return False
    return object_fits(memory.world, loader, memory.thing(thing).actual, name)


def _placed(called, values):
    """Return the list of the places of a method's object and arguments, and the object or None."""
    sorts = parameters(called[3])
    is_static = len(values) == len(sorts)
    places = [] if is_static else [values[0]]
    for sort, value in zip(sorts, values if is_static else values[1:]):
        places += places_for(sort, value)
    return places, None if is_static else values[0]


def _made_call(memory, called, arguments, steps, watched):
    """Return what comes of a call."""
    run = Run(memory, steps, watched)
    try:
        values = [memory.string(value) if isinstance(value, str) else value for value in arguments]
        places, own = _placed(called, values)
        run.whole(called, places, own)
        return run.outcome
    except OutOfSteps:
        outcome = ("open", "steps")
    except OutOfRoom:
        outcome = ("open", "room")
    except Wrong as wrong:
        frame = run.tower[-1]
        outcome = ("wrong", wrong.word, frame.cls, frame.name, frame.descriptor, frame.index)
    memory.stopped = True
    return outcome
