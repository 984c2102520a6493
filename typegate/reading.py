"""The fields, the methods and the codes of a file that is read."""

from typegate.classes import Code, Uncut
from typegate.cutting import cut, rows_of
from typegate.entries import entries_at_start
from typegate.maps import MapReader
from typegate.names import is_array, is_field_descriptor, is_method_descriptor, is_method_name, is_name, parameters
from typegate.names import places_of
from typegate.pools import read_link, read_text
from typegate.reader import Ended, NotCut, want

STATIC = 8
MOST_PLACES = 255
MOST_BYTES = 65535
OF_FIELDS = {1: "public", 2: "private", 4: "protected", 8: "static", 16: "final"}
OF_METHODS = {
    1: "public", 2: "private", 4: "protected", 8: "static", 16: "final", 32: "synchronized", 256: "native",
    1024: "abstract",
}
# The sort of the constant for each descriptor that has one.
CONSTANTS = {"Z": "int", "B": "int", "S": "int", "C": "int", "I": "int", "J": "long", "LString;": "string"}


def words_in(number, words):
    """Return the list of the words whose numbers are in a sum."""
    return [word for part, word in words.items() if number & part != 0]


def read_attributes(reader, pool, known):
    """Go by the attributes that come next; return the place and the inside of the known one, or None."""
    found = None
    for _ in range(reader.number(2)):
        place = reader.at
        name = read_text(reader, pool)
        inner = reader.inside(reader.number(4))
        if name == known:
            want(found is None, place, "twice")
            found = (place, inner)
    return found


def read_field(reader, pool):
    """Return the field that is told next."""
    number = reader.number(2)
    name, descriptor = _read_names(reader, pool, is_name, is_field_descriptor)
    known = "ConstantValue" if number & STATIC != 0 else None
    found = read_attributes(reader, pool, known)
    constant = None if found is None else _read_constant(found, pool, descriptor)
    return (name, descriptor, words_in(number, dict(OF_FIELDS)), constant)


def read_method(reader, pool, class_name):
    """Return the method, of a class of this name, that is told next."""
    number = reader.number(2)
    name, descriptor = _read_names(reader, pool, is_method_name, is_method_descriptor)
    if name == "<clinit>":
        number = number & STATIC
    flags = words_in(number, dict(OF_METHODS))
    found = read_attributes(reader, pool, "Code")
    if found is None:
        return (name, descriptor, flags, None)
    entries = entries_at_start(class_name, name, descriptor, flags)
    room = places_of(parameters(descriptor)) + (0 if "static" in flags else 1)
    told = _read_code(found, pool, room)
    try:
        code = told.made(pool, entries)
    except NotCut as fault:
        code = Uncut(fault.why, fault.at)
    return (name, descriptor, flags, code)


def _read_names(reader, pool, is_right_name, is_right_descriptor):
    """Return the name and the descriptor of a member."""
    place = reader.at
    name = read_text(reader, pool)
    want(is_right_name(name), place, "name")
    place = reader.at
    descriptor = read_text(reader, pool)
    want(is_right_descriptor(descriptor), place, "descriptor")
    return name, descriptor


def _read_constant(found, pool, descriptor):
    place, inner = found
    try:
        sort = CONSTANTS.get(descriptor, "no constant")
        link = read_link(inner, pool, sort)
    except Ended:
        sort = None
    want(sort is not None and inner.is_done(), place, "length")
    return pool.text(link) if sort == "string" else pool.told(link)


def _read_code(found, pool, room):
    """Return the ToldCode in an attribute, of a method whose parameters and object take so many places."""
    place, inner = found
    told = ToldCode()
    try:
        told.read(inner, pool, room)
        is_whole = inner.is_done()
    except Ended:
        is_whole = False
    want(is_whole, place, "length")
    return told


class ToldCode:
    """A code as its attribute tells it: bytes, handlers by the places of bytes, and the inside of its map."""

    def __init__(self):
        self.stack = 0
        self.places = 0
        self.rows = None
        self.handlers = []
        self.told_map = None

    def read(self, reader, pool, room):
        """Read all parts, from the first one on."""
        begin = reader.at
        self.stack = reader.number(2)
        want(self.stack <= MOST_PLACES, begin, "large")
        begin = reader.at
        self.places = reader.number(2)
        want(self.places <= MOST_PLACES, begin, "large")
        want(room <= self.places, begin, "places")
        begin = reader.at
        many = reader.number(4)
        want(1 <= many <= MOST_BYTES, begin, "code")
        self.rows = reader.inside(many)
        self.handlers = [_read_handler(reader, pool, many) for _ in range(reader.number(2))]
        self.told_map = read_attributes(reader, pool, "StackMapTable")

    def made(self, pool, entries):
        """Return the Code of a method that begins with these entries; raise NotCut if it can't be cut."""
        many = self.rows.end - self.rows.at
        pieces = cut(self.rows)
        rows = rows_of(pieces, pool)
        starts = {piece.begin: index for index, piece in enumerate(pieces)}
        ends = {**starts, many: len(pieces)}
        handlers = []
        for number, (begin, end, target, kind) in enumerate(self.handlers):
            if begin not in starts or end not in ends or target not in starts:
                raise NotCut("handler", number)
            handlers.append((starts[begin], ends[end], starts[target], kind))
        frames = []
        if self.told_map is not None:
            place, inner = self.told_map
            frames = MapReader(inner, place, pool, starts).told_frames(entries)
        return Code(self.stack, self.places, rows, handlers, frames)


def _read_handler(reader, pool, many):
    place = reader.at
    begin, end, target, link = [reader.number(2) for _ in range(4)]
    want(begin < end <= many and target < many, place, "handler")
    if link == 0:
        return (begin, end, target, None)
    want(pool.sort_of(link) == "class" and not is_array(pool.text(link)), place, "handler")
    return (begin, end, target, pool.text(link))
