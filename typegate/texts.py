"""Texts: strings of the signs that a file of a class can tell, and their bytes."""

from typegate.errors import NoBytes, NoText
from typegate.kinds import is_row, is_within

GREATEST_BYTE = 255
# Written out, as nothing that the package may use leads from a number to its sign.
SIGNS = " !\"#$&'()*+,-./0123456789:;<=>?@ABCDEFGHIJKLMNOPQRSTUVWXYZ[\\]^_`abcdefghijklmnopqrstuvwxyz{|}~"


def is_text(thing):
    """Return whether any object is a text."""
    return isinstance(thing, str) and all([sign in SIGNS for sign in thing])


def text_bytes(text):
    """Return the list of the bytes of a text."""
    if not is_text(text):
        raise NoText()
    return [ord(sign) for sign in text]


def bytes_text(data):
    """Return the text of a row of bytes."""
    if not is_row_of_bytes(data):
        raise NoBytes()
    signs = {ord(sign): sign for sign in SIGNS}
    if not all([byte in signs for byte in data]):
        raise NoText()
    return "".join([signs[byte] for byte in data])


def is_row_of_bytes(thing):
    """Return whether any object is a row of integers that a byte can tell."""
    return is_row(thing) and all([is_within(byte, 0, GREATEST_BYTE) for byte in thing])
