"""The entries of frames."""

from typegate.kinds import is_tuple_of, is_within
from typegate.names import is_type_name, parameters, type_name_of

PLAIN_ENTRIES = ("top", "int", "long", "null", "this")


def is_entry(thing, many):
    """Return whether any object is an entry of a code with so many instructions."""
    if not is_tuple_of(thing, 2):
        return thing in PLAIN_ENTRIES
    word, held = thing
    if word == "object":
        return is_type_name(held)
    return word == "new" and is_within(held, 0, many - 1)


def entry_of(descriptor):
    """Return the entry that a value of a field's descriptor is."""
    if descriptor == "J":
        return "long"
    name = type_name_of(descriptor)
    return "int" if name is None else ("object", name)


def entries_at_start(class_name, method, descriptor, flags):
    """Return the list of the entries with which a method of a class begins, as a frame tells its locals."""
    entries = [entry_of(parameter) for parameter in parameters(descriptor)]
    if "static" in flags:
        return entries
    is_raw = method == "<init>" and class_name != "Object"
    return ["this" if is_raw else ("object", class_name)] + entries


def places_in(entries):
    """Return how many places some entries of locals or of a stack take."""
    return sum([2 if entry == "long" else 1 for entry in entries])


def spread(entries, many):
    """Return the list of the entries of all of so many locals, of which a frame tells the first ones."""
    places = []
    for entry in entries:
        places.append(entry)
        if entry == "long":
            places.append("top")
    return places + ["top"] * (many - len(places))


def gathered(places):
    """Return the tuple of the entries by which a frame tells what stands in all locals."""
    entries = []
    at = 0
    while at < len(places):
        entries.append(places[at])
        at += places_in(places[at:at + 1])
    while len(entries) > 0 and entries[-1] == "top":
        entries.pop()
    return tuple(entries)
