"""The entries of frames."""

from typegate.kinds import is_tuple_of, is_within
from typegate.names import is_type_name

PLAIN_ENTRIES = ("top", "int", "long", "null", "this")


def is_entry(thing, many):
    """Return whether any object is an entry of a code with so many instructions."""
    if not is_tuple_of(thing, 2):
        return thing in PLAIN_ENTRIES
    word, held = thing
    if word == "object":
        return is_type_name(held)
    return word == "new" and is_within(held, 0, many - 1)
