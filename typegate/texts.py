"""Texts: strings of the signs that a file of a class can tell."""

# This sign can't be written in a string of this package.
PERCENT = 37


def is_text(thing):
    """Return whether any object is a text."""
    return isinstance(thing, str) and all([_is_text_sign(sign) for sign in thing])


def _is_text_sign(sign):
    return " " <= sign <= "~" and ord(sign) != PERCENT
