"""What stands in the locals and on the stack while the judge goes along a code."""

from typegate.entries import places_in
from typegate.errors import NotRight
from typegate.names import is_array, type_name_of


class State:
    """A frame that an instruction changes; what it refuses is told with the index of the instruction."""

    def __init__(self, index, frame):
        places, stack, flag = frame
        self.index = index
        self.places = list(places)
        self.stack = list(stack)
        self.flag = flag

    def as_frame(self):
        """Return the frame as a tuple (locals, stack, flag)."""
        return (tuple(self.places), tuple(self.stack), self.flag)

    def refuse(self, word):
        """Raise NotRight with this word."""
        raise NotRight(self.index, word)

    def want(self, is_right, word):
        """Refuse the instruction with this word, unless something is right."""
        if not is_right:
            self.refuse(word)

    def want_entries(self, many):
        """Refuse the instruction if the stack has fewer entries."""
        self.want(len(self.stack) >= many, "depth")

    def take(self, sorts):
        """Take entries of these sorts, of which the last one stands uppermost."""
        self.want_entries(len(sorts))
        for sort in reversed(sorts):
            self.want(has_sort(self.stack.pop(), sort), "sort")

    def put_all(self, old, new):
        """Put one entry in the place of another one, wherever that stands."""
        self.places = _replaced(self.places, old, new)
        self.stack = _replaced(self.stack, old, new)

    def places_taken(self):
        """Return how many places the stack takes."""
        return places_in(self.stack)


def _replaced(entries, old, new):
    return [new if entry == old else entry for entry in entries]


def has_sort(entry, sort):
    """Return whether an entry is of one of the sorts that instructions ask for."""
    if sort == "reference":
        return entry in ("null", "this") or isinstance(entry, tuple)
    if sort == "ready":
        return entry == "null" or is_object(entry)
    if sort == "one place":
        return entry not in ("long", "top")
    if sort in ("int", "long"):
        return entry == sort
    # What is left are sorts of arrays, and null may stand for each of them.
    return entry == "null" or is_object_of_array(entry) and _is_array_of(entry[1], sort)


def is_object(entry):
    """Return whether an entry tells ready objects of a type."""
    return isinstance(entry, tuple) and entry[0] == "object"


def is_object_of_array(entry):
    """Return whether an entry tells arrays."""
    return is_object(entry) and is_array(entry[1])


def _is_array_of(name, sort):
    if sort == "array":
        return True
    if sort == "array of references":
        return type_name_of(name[1:]) is not None
    if sort == "[B or [Z":
        return name in ("[B", "[Z")
    return name == sort
