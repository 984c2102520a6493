"""Classes, and the codes of their methods, as values."""

from typegate.entries import is_entry
from typegate.errors import NoForm
from typegate.instructions import has_right_pairs, is_instruction, is_string, kept, targets
from typegate.kinds import is_integer, is_row, is_tuple_of, is_within
from typegate.names import is_class_name, is_field_descriptor, is_method_descriptor, is_method_name, is_name

FLAGS = ("public", "private", "protected", "static", "final", "synchronized", "abstract", "interface", "native")
UNCUT_WORDS = ("opcode", "cut", "switch", "local", "jump", "sort", "count", "handler", "map")
MOST_PLACES = 255
MOST_ROWS = 65535
MOST_ENTRIES = 255
LEAST_LONG = -9223372036854775808
GREATEST_LONG = 9223372036854775807


class ClassFile:
    """A class, as a file tells it."""

    def __init__(self, name, parent, interfaces, flags, fields, methods):
        if not is_class_name(name):
            raise NoForm("name", -1)
        if parent is not None and not is_class_name(parent):
            raise NoForm("parent", -1)
        self.name = name
        self.parent = parent
        self.interfaces = _kept_interfaces(interfaces)
        if not _is_row_of_flags(flags):
            raise NoForm("flags", -1)
        self.flags = _in_order(flags)
        self.fields = _kept_members(fields, "field", _is_field)
        self.methods = _kept_members(methods, "method", _is_method)

    def __eq__(self, other):
        return (isinstance(other, ClassFile) and self.name == other.name and self.parent == other.parent
                and self.interfaces == other.interfaces and self.flags == other.flags
                and self.fields == other.fields and self.methods == other.methods)


class Code:
    """The instructions of a method, and what is told with them."""

    def __init__(self, stack, places, rows, handlers, frames):
        if not is_within(stack, 0, MOST_PLACES):
            raise NoForm("stack", -1)
        if not is_within(places, 0, MOST_PLACES):
            raise NoForm("places", -1)
        self.stack = stack
        self.places = places
        self.rows = _kept_rows(rows)
        self.handlers = _kept_handlers(handlers, len(self.rows))
        self.frames = _kept_frames(frames, len(self.rows))

    def __eq__(self, other):
        return (isinstance(other, Code) and self.stack == other.stack and self.places == other.places
                and self.rows == other.rows and self.handlers == other.handlers and self.frames == other.frames)


class Uncut:
    """Bytes of a code that can't be cut into instructions."""

    def __init__(self, why, at):
        if why not in UNCUT_WORDS or not is_integer(at) or at < 0:
            raise NoForm("uncut", -1)
        self.why = why
        self.at = at

    def __eq__(self, other):
        return isinstance(other, Uncut) and self.why == other.why and self.at == other.at


def _kept_interfaces(interfaces):
    if not is_row(interfaces):
        raise NoForm("interfaces", -1)
    for number, name in enumerate(interfaces):
        if not is_class_name(name):
            raise NoForm("interface", number)
    return tuple(interfaces)


def _is_row_of_flags(thing):
    if not is_row(thing) or not all([word in FLAGS for word in thing]):
        return False
    return len(set(thing)) == len(thing)


def _in_order(flags):
    return tuple([word for word in FLAGS if word in flags])


def _kept_members(members, word, is_member):
    if not is_row(members):
        raise NoForm(word + "s", -1)
    for number, member in enumerate(members):
        if not is_tuple_of(member, 4) or not is_member(member):
            raise NoForm(word, number)
    return tuple([(name, descriptor, _in_order(flags), worth) for name, descriptor, flags, worth in members])


def _is_field(member):
    name, descriptor, flags, constant = member
    return is_name(name) and is_field_descriptor(descriptor) and _is_row_of_flags(flags) and _is_constant(constant)


def _is_constant(thing):
    return thing is None or is_within(thing, LEAST_LONG, GREATEST_LONG) or is_string(thing)


def _is_method(member):
    name, descriptor, flags, code = member
    if not is_method_name(name) or not is_method_descriptor(descriptor) or not _is_row_of_flags(flags):
        return False
    return code is None or isinstance(code, Code) or isinstance(code, Uncut)


def _kept_rows(rows):
    if not is_row(rows) or not 1 <= len(rows) <= MOST_ROWS:
        raise NoForm("rows", -1)
    for index, row in enumerate(rows):
        if not is_instruction(row):
            raise NoForm("instruction", index)
        if not has_right_pairs(row):
            raise NoForm("pairs", index)
        if not all([0 <= target < len(rows) for target in targets(row)]):
            raise NoForm("jump", index)
    return tuple([kept(row) for row in rows])


def _kept_handlers(handlers, many):
    if not is_row(handlers):
        raise NoForm("handlers", -1)
    for number, handler in enumerate(handlers):
        if not is_tuple_of(handler, 4) or not _is_handler(handler, many):
            raise NoForm("handler", number)
    return tuple(handlers)


def _is_handler(handler, many):
    begin, end, target, kind = handler
    if kind is not None and not is_class_name(kind):
        return False
    return is_within(begin, 0, many - 1) and is_within(end, begin + 1, many) and is_within(target, 0, many - 1)


def _kept_frames(frames, many):
    if not is_row(frames):
        raise NoForm("frames", -1)
    least = 0
    for number, frame in enumerate(frames):
        if not is_tuple_of(frame, 3) or not _is_frame(frame, least, many):
            raise NoForm("frame", number)
        least = frame[0] + 1
    return tuple([(index, tuple(places), tuple(stack)) for index, places, stack in frames])


def _is_frame(frame, least, many):
    index, places, stack = frame
    return is_within(index, least, many - 1) and _is_row_of_entries(places, many) and _is_row_of_entries(stack, many)


def _is_row_of_entries(thing, many):
    return is_row(thing) and len(thing) <= MOST_ENTRIES and all([is_entry(entry, many) for entry in thing])
