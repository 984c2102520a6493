"""The instructions of a code as bytes: their forms, and where each one begins."""

from typegate.instructions import targets
from typegate.names import parameters, places_of
from typegate.opcodes import CALLS, CLASSES, FIELDS, IINC, INTERFACE_CALL, JUMPS, LETTERS, LOCALS, LOOKUP, NEW_LETTERS
from typegate.opcodes import TABLE, WHOLE, WIDE
from typegate.reader import number_bytes

GREATEST_BYTE = 255
SHORT_GOTO = 167
LONG_GOTO = 200
# Where each sort of constants leads, for the words that read one by its link alone.
OF_POOL = {"iconst": "int", "string": "string", "class": "class"}


class Layout:
    """The bytes of the instructions of a code, in the pool's order and at the places that they get."""

    def __init__(self, rows, pool):
        self._rows = rows
        self._whole = {WHOLE[opcode]: opcode for opcode in WHOLE}
        self._opcodes = _opcodes_of_words()
        # Those that jump get their bytes when it is known where all of them stand.
        self._told = [None if len(targets(row)) > 0 else self._plain_bytes(row, pool) for row in rows]
        self._long = {}
        self.starts = self._found_starts()
        far = self._far_gotos()
        while len(far) > 0:
            for index in far:
                self._long[index] = True
            self.starts = self._found_starts()
            far = self._far_gotos()

    def reaches(self):
        """Return whether each jump that has a short distance alone can tell it."""
        for index, row in enumerate(self._rows):
            if row[0] not in ("goto", "switch"):
                for target in targets(row):
                    if not self._is_near(index, target):
                        return False
        return True

    def all_bytes(self):
        """Return the list of all bytes."""
        data = []
        for index in range(len(self._rows)):
            told = self._told[index]
            data += self._jump_bytes(index) if told is None else told
        return data

    def _found_starts(self):
        """Return the list of the places at which the instructions begin, and of where the last one ends."""
        starts = []
        at = 0
        for index in range(len(self._rows)):
            starts.append(at)
            told = self._told[index]
            at += self._jump_size(index, at) if told is None else len(told)
        starts.append(at)
        return starts

    def _jump_size(self, index, at):
        row = self._rows[index]
        if row[0] == "switch":
            return 4 - (at & 3) + _switch_size(row[1])
        return 5 if index in self._long else 3

    def _far_gotos(self):
        """Return the indexes of the gotos whose distances are too great for their form."""
        found = []
        for index, row in enumerate(self._rows):
            if row[0] == "goto" and index not in self._long and not self._is_near(index, row[1]):
                found.append(index)
        return found

    def _distance(self, index, target):
        return self.starts[target] - self.starts[index]

    def _is_near(self, index, target):
        return -32768 <= self._distance(index, target) <= 32767

    def _jump_bytes(self, index):
        row = self._rows[index]
        if row[0] == "switch":
            return self._switch_bytes(index, row)
        distance = self._distance(index, row[1])
        if index in self._long:
            return [LONG_GOTO] + number_bytes(distance, 4)
        return [self._opcodes[row[0]]] + number_bytes(distance, 2)

    def _switch_bytes(self, index, row):
        _, pairs, target = row
        default = number_bytes(self._distance(index, target), 4)
        padding = [0] * (3 - (self.starts[index] & 3))
        if _is_lookup(pairs):
            data = [LOOKUP] + padding + default + number_bytes(len(pairs), 4)
            for key, leads in pairs:
                data += number_bytes(key, 4) + number_bytes(self._distance(index, leads), 4)
            return data
        low = pairs[0][0]
        high = pairs[-1][0]
        told = {key: number_bytes(self._distance(index, leads), 4) for key, leads in pairs}
        data = [TABLE] + padding + default + number_bytes(low, 4) + number_bytes(high, 4)
        for key in range(low, high + 1):
            data += told.get(key, default)
        return data

    def _plain_bytes(self, row, pool):
        """Return the bytes of an instruction that does not jump."""
        word = row[0]
        if row in self._whole:
            return [self._whole[row]]
        if word == "iinc":
            return _iinc_bytes(row)
        if word == "iconst" and -32768 <= row[1] <= 32767:
            is_byte = -128 <= row[1] <= 127
            return [16] + number_bytes(row[1], 1) if is_byte else [17] + number_bytes(row[1], 2)
        if word == "lconst":
            return [20] + pool.link("long", row[1])
        if word in OF_POOL:
            index = pool.index_of(OF_POOL[word], row[1])
            return [18, index] if index <= GREATEST_BYTE else [19] + number_bytes(index, 2)
        if word == "newarray":
            return [NEW_LETTERS] + [number for number in LETTERS if LETTERS[number] == row[1]]
        if len(row) == 4:
            return self._member_bytes(row, pool)
        opcode = self._opcodes[word]
        return [opcode, row[1]] if opcode in LOCALS else [opcode] + pool.link("class", row[1]) + list(row[2:])

    def _member_bytes(self, row, pool):
        word, owner, name, descriptor = row
        opcode = self._opcodes[word.removesuffix("_i")]
        if opcode in FIELDS:
            return [opcode] + pool.link("field", owner, name, descriptor)
        of_interface = word == "invokeinterface" or word.endswith("_i")
        link = pool.link("interface method" if of_interface else "method", owner, name, descriptor)
        if opcode == INTERFACE_CALL:
            return [opcode] + link + [1 + places_of(parameters(descriptor)), 0]
        return [opcode] + link


def _opcodes_of_words():
    """Return a dict from the words of instructions that have more bytes than one to their first ones."""
    found = {}
    for table in (dict(JUMPS), dict(LOCALS), dict(FIELDS), dict(CALLS), dict(CLASSES)):
        for opcode, word in table.items():
            found[word] = opcode
    found["goto"] = SHORT_GOTO
    return found


def _iinc_bytes(row):
    _, local, more = row
    if -128 <= more <= 127:
        return [IINC, local] + number_bytes(more, 1)
    return [WIDE, IINC, 0, local] + number_bytes(more, 2)


def _is_lookup(pairs):
    """Return whether pairs are told one by one, and not by a table of all keys between the least and the greatest."""
    return len(pairs) == 0 or 8 * len(pairs) < 4 + 4 * (pairs[-1][0] - pairs[0][0] + 1)


def _switch_size(pairs):
    """Return how many bytes a switch has behind its padding."""
    if _is_lookup(pairs):
        return 8 + 8 * len(pairs)
    return 12 + 4 * (pairs[-1][0] - pairs[0][0] + 1)
