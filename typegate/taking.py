"""What a row takes from the stack: looked at place by place, the lowest one first."""

from typegate.halts import Wrong
from typegate.kin import object_fits
from typegate.names import type_name_of


class Taking:
    """The uppermost places of the stack of a frame, as many as a row takes."""

    def __init__(self, run, frame, many):
        if len(frame.stack) < many:
            raise Wrong("few")
        self._run = run
        self._frame = frame
        self._begin = len(frame.stack) - many
        self._at = self._begin

    def first(self):
        """Return the lowest place, without looking at what stands there."""
        return self._frame.stack[self._begin]

    def told_places(self):
        """Return the list of all places."""
        return self._frame.stack[self._begin:]

    def drop(self):
        """Take the places from the stack."""
        del self._frame.stack[self._begin:]

    def number(self):
        """Return the int that stands at the next place."""
        return self._number("int", 1)

    def long(self):
        """Return the long that stands at the next two places."""
        return self._number("long", 2)

    def _number(self, sort, size):
        place = self._frame.stack[self._at]
        want_sort(is_number(place, sort))
        self._at += size
        return place[1]

    def any_reference(self):
        """Return null, or the reference of any object, at the next place."""
        place = self._frame.stack[self._at]
        want_sort(is_reference(place))
        self._at += 1
        return place

    def ready_reference(self):
        """Return null, or the reference of an object that is not raw, at the next place."""
        place = self.any_reference()
        if place is not None and self._run.memory.thing(place).raw:
            raise Wrong("raw")
        return place

    def value(self, descriptor, cls):
        """Return what stands next, which must fit a descriptor, seen by a class."""
        if descriptor == "J":
            return self.long()
        name = type_name_of(descriptor)
        if name is None:
            return self.number()
        reference = self.ready_reference()
        self.want_kind(reference is None or self.fits(reference, name, cls))
        return reference

    def fits(self, reference, name, cls):
        """Return whether an object fits a type name, seen by a class."""
        memory = self._run.memory
        return object_fits(memory.world, cls[0], memory.thing(reference).actual, name)

    def want_kind(self, is_right):
        """Stop the machine unless an object is what the row wants."""
        if not is_right:
            raise Wrong("kind")


def want_sort(is_right):
    """Stop the machine unless a place has the sort that the row wants."""
    if not is_right:
        raise Wrong("sort")


def is_number(place, sort):
    """Return whether a place holds an int, or a long."""
    return isinstance(place, tuple) and place[0] == sort


def is_reference(place):
    """Return whether a place holds null or the reference of an object."""
    return place is None or isinstance(place, tuple) and place[0] == "ref"


def places_for(descriptor, value):
    """Return the list of the places in which a value of a descriptor stands."""
    if descriptor == "J":
        return [("long", value), "half"]
    return [("int", value) if type_name_of(descriptor) is None else value]
