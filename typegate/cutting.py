"""The bytes of a code, cut into instructions."""

from typegate.names import MOST_BRACKETS, is_array, parameters, places_of
from typegate.opcodes import CALLS, CLASSES, FIELDS, IINC, INTERFACE_CALL, JUMPS, LAST, LEFT_OUT_BEHIND_WIDE
from typegate.opcodes import LEFT_OUT_LETTERS, LETTERS, LOCALS, LOOKUP, NEW_ARRAYS, NEW_LETTERS, NUMBERS, TABLE, WHOLE
from typegate.opcodes import WIDE, WIDE_NUMBERS
from typegate.reader import Ended, NotCut, want

MOST_LOCAL = 255
CONSTANTS = {"int": "iconst", "string": "string", "class": "class"}


class Piece:
    """The bytes of one instruction: the first one, or the one behind WIDE, and the numbers behind it."""

    def __init__(self, begin, opcode, numbers):
        self.begin = begin
        self.opcode = opcode
        self.numbers = numbers


def cut(reader):
    """Return the list of the Pieces into which bytes are cut; where each begins is counted from the first byte."""
    begin = reader.at
    pieces = []
    while not reader.is_done():
        at = reader.at - begin
        try:
            pieces.append(_cut_one(reader, at))
        except Ended:
            raise NotCut("cut", at)
    return pieces


def _cut_one(reader, at):
    place = reader.at
    opcode = reader.number(1)
    if opcode in WHOLE:
        return Piece(at, opcode, ())
    if opcode in (TABLE, LOOKUP):
        reader.next_bytes(3 - (at & 3))
        return Piece(at, opcode, _cut_table(reader, at) if opcode == TABLE else _cut_lookup(reader, at))
    if opcode == WIDE:
        return _cut_wide(reader, at)
    _want_piece(opcode <= LAST, "opcode", at)
    want(opcode in NUMBERS, place, "out")
    numbers = _read_numbers(reader, NUMBERS[opcode])
    want(opcode != NEW_LETTERS or numbers[0] not in LEFT_OUT_LETTERS, place + 1, "out")
    return Piece(at, opcode, numbers)


def _want_piece(is_right, why, at):
    """Raise NotCut unless something is right."""
    if not is_right:
        raise NotCut(why, at)


def _read_numbers(reader, sizes):
    return tuple([reader.number(size) if size > 0 else reader.signed(-size) for size in sizes])


def _cut_wide(reader, at):
    place = reader.at
    opcode = reader.number(1)
    want(opcode not in LEFT_OUT_BEHIND_WIDE, place, "out")
    _want_piece(opcode in WIDE_NUMBERS, "opcode", at)
    numbers = _read_numbers(reader, WIDE_NUMBERS[opcode])
    _want_piece(numbers[0] <= MOST_LOCAL, "local", at)
    return Piece(at, opcode, numbers)


def _cut_table(reader, at):
    """Return the distance for all other keys, and the pairs of a key and a distance."""
    default, low, high = _read_numbers(reader, (-4, -4, -4))
    _want_piece(low <= high, "switch", at)
    rows = reader.inside(4 * (high - low + 1))
    return (default, [(key, rows.signed(4)) for key in range(low, high + 1)])


def _cut_lookup(reader, at):
    """Return the same as for a table."""
    default, many = _read_numbers(reader, (-4, -4))
    _want_piece(many >= 0, "switch", at)
    rows = reader.inside(8 * many)
    pairs = [_read_numbers(rows, (-4, -4)) for _ in range(many)]
    _want_piece(all([pairs[k][0] < pairs[k + 1][0] for k in range(many - 1)]), "switch", at)
    return (default, pairs)


def rows_of(pieces, pool):
    """Return the list of the instructions that the pieces are."""
    starts = {piece.begin: index for index, piece in enumerate(pieces)}
    return [_row_of(piece, starts, pool) for piece in pieces]


def _row_of(piece, starts, pool):
    opcode = piece.opcode
    numbers = piece.numbers
    if opcode in WHOLE:
        return WHOLE[opcode]
    if opcode in (TABLE, LOOKUP):
        return _switch_of(piece, starts)
    if opcode in JUMPS:
        return (JUMPS[opcode], _target(piece, numbers[0], starts))
    if opcode in LOCALS:
        return (LOCALS[opcode], numbers[0])
    if opcode == IINC:
        return ("iinc", *numbers)
    if opcode == NEW_LETTERS:
        _want_piece(numbers[0] in LETTERS, "count", piece.begin)
        return ("newarray", LETTERS[numbers[0]])
    if opcode in FIELDS:
        _want_link(piece, pool, ("field",))
        return (FIELDS[opcode], *pool.named_member(numbers[0]))
    if opcode in CALLS:
        return _call_of(piece, pool)
    if opcode in CLASSES:
        return _class_row_of(piece, pool)
    return _constant_of(piece, pool)


def _target(piece, distance, starts):
    """Return the index of the instruction to which one jumps."""
    _want_piece(piece.begin + distance in starts, "jump", piece.begin)
    return starts[piece.begin + distance]


def _switch_of(piece, starts):
    distance, pairs = piece.numbers
    default = _target(piece, distance, starts)
    told = [(key, _target(piece, other, starts)) for key, other in pairs]
    return ("switch", tuple([pair for pair in told if pair[1] != default]), default)


def _want_link(piece, pool, sorts):
    """Refuse a piece, unless its link leads to an entry of one of these sorts; return the sort."""
    sort = pool.sort_of(piece.numbers[0])
    _want_piece(sort in sorts, "sort", piece.begin)
    return sort


def _call_of(piece, pool):
    word = CALLS[piece.opcode]
    sort = _want_link(piece, pool, ("method", "interface method"))
    cls, name, descriptor = pool.named_member(piece.numbers[0])
    of_interface = sort == "interface method"
    if word == "invokeinterface":
        is_right = of_interface
    elif word == "invokevirtual":
        is_right = not of_interface and name != "<init>"
    else:
        is_right = not is_array(cls) and (name != "<init>" or word == "invokespecial")
    _want_piece(is_right, "sort", piece.begin)
    if piece.opcode == INTERFACE_CALL:
        told = piece.numbers[1:]
        _want_piece(told == (1 + places_of(parameters(descriptor)), 0), "count", piece.begin)
    elif of_interface:
        word += "_i"
    return (word, cls, name, descriptor)


def _class_row_of(piece, pool):
    word = CLASSES[piece.opcode]
    _want_link(piece, pool, ("class",))
    name = pool.text(piece.numbers[0])
    _want_piece(word != "new" or not is_array(name), "sort", piece.begin)
    depth = name.count("[")
    _want_piece(word != "anewarray" or depth < MOST_BRACKETS, "count", piece.begin)
    if piece.opcode == NEW_ARRAYS:
        many = piece.numbers[1]
        _want_piece(1 <= many <= depth, "count", piece.begin)
        return (word, name, many)
    return (word, name)


def _constant_of(piece, pool):
    """Return the instruction for a number that stands in the code, or for a constant of the pool."""
    number = piece.numbers[0]
    if piece.opcode in (16, 17):
        return ("iconst", number)
    if piece.opcode == 20:
        _want_link(piece, pool, ("long",))
        return ("lconst", pool.told(number))
    sort = _want_link(piece, pool, ("int", "string", "class"))
    return (CONSTANTS[sort], pool.told(number) if sort == "int" else pool.text(number))
