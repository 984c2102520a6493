"""Bytes that are gone through from the first one on."""

from typegate.errors import NoClass, TypegateError


class Ended(TypegateError):
    """The bytes end inside a part."""


class NotCut(TypegateError):
    """The bytes of a code can't be cut into instructions."""

    def __init__(self, why, at):
        self.why = why
        self.at = at


class Reader:
    """The bytes from one place of a file up to another one, and how far they have been read."""

    def __init__(self, data, begin, end):
        self._data = data
        self.at = begin
        self.end = end

    def next_bytes(self, many):
        """Return the next bytes, as a row."""
        if many > self.end - self.at:
            raise Ended()
        self.at += many
        return self._data[self.at - many:self.at]

    def number(self, many):
        """Return the number that the next bytes tell."""
        worth = 0
        for byte in self.next_bytes(many):
            worth = worth * 256 + byte
        return worth

    def signed(self, many):
        """Return the number with a sign that the next bytes tell."""
        worth = self.number(many)
        half = 1 << (8 * many - 1)
        return worth - 2 * half if worth >= half else worth

    def inside(self, many):
        """Go on behind the next bytes, and return a Reader of them alone."""
        self.next_bytes(many)
        return Reader(self._data, self.at - many, self.at)

    def is_done(self):
        """Return whether all bytes have been read."""
        return self.at == self.end


def want(is_right, at, why):
    """Raise NoClass unless something is right."""
    if not is_right:
        raise NoClass(at, why)


def number_bytes(number, many):
    """Return the list of so many bytes that tell a number, with a sign or without one."""
    return [number >> (8 * k) & 255 for k in reversed(range(many))]
