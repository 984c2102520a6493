"""What kind of thing any object is, before more is asked of it."""


def is_integer(thing):
    """Return whether any object is an integer."""
    return isinstance(thing, int) and not isinstance(thing, bool)


def is_within(thing, low, high):
    """Return whether any object is an integer from low to high."""
    return is_integer(thing) and low <= thing <= high


def is_row(thing):
    """Return whether any object is a row."""
    return isinstance(thing, (list, tuple))


def is_tuple_of(thing, many):
    """Return whether any object is a tuple of so many things."""
    return isinstance(thing, tuple) and len(thing) == many
