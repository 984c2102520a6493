"""The bytes of fields, methods and codes in a file that is written."""

from typegate.classes import Uncut
from typegate.entries import entries_at_start
from typegate.errors import NoWriting
from typegate.layout import Layout
from typegate.reader import number_bytes
from typegate.reading import CONSTANTS, MOST_BYTES, OF_FIELDS, OF_METHODS
from typegate.telling import map_bytes


def flags_number(flags, words):
    """Return the sum of the numbers of some flags."""
    return sum([number for number, word in words.items() if word in flags])


def field_bytes(field, pool):
    """Return the list of the bytes of a field."""
    name, descriptor, flags, constant = field
    number = flags_number(flags, dict(OF_FIELDS))
    data = number_bytes(number, 2) + pool.link("text", name) + pool.link("text", descriptor)
    if constant is None:
        return data + [0, 0]
    head = pool.link("text", "ConstantValue")
    return data + [0, 1] + head + [0, 0, 0, 2] + pool.link(CONSTANTS[descriptor], constant)


def method_bytes(class_name, number, method, pool):
    """Return the list of the bytes of the method with this number of a class."""
    name, descriptor, flags, code = method
    flags_told = flags_number(flags, dict(OF_METHODS))
    data = number_bytes(flags_told, 2) + pool.link("text", name) + pool.link("text", descriptor)
    if code is None:
        return data + [0, 0]
    if isinstance(code, Uncut):
        raise NoWriting("uncut", number)
    head = pool.link("text", "Code")
    inner = _code_bytes(code, number, entries_at_start(class_name, name, descriptor, flags), pool)
    return data + [0, 1] + head + number_bytes(len(inner), 4) + inner


def _code_bytes(code, number, entries, pool):
    """Return the list of the bytes of a Code, of a method that begins with these entries."""
    layout = Layout(code.rows, pool)
    if not layout.reaches():
        raise NoWriting("jump", number)
    starts = layout.starts
    if starts[-1] > MOST_BYTES:
        raise NoWriting("large", number)
    data = number_bytes(code.stack, 2) + number_bytes(code.places, 2) + number_bytes(starts[-1], 4) + layout.all_bytes()
    data += number_bytes(len(code.handlers), 2)
    for begin, end, target, kind in code.handlers:
        for index in (begin, end, target):
            data += number_bytes(starts[index], 2)
        data += [0, 0] if kind is None else pool.link("class", kind)
    if len(code.frames) == 0:
        return data + [0, 0]
    head = pool.link("text", "StackMapTable")
    inner = map_bytes(code.frames, entries, starts, pool)
    return data + [0, 1] + head + number_bytes(len(inner), 4) + inner
