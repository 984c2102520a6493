"""The pool of a file that is written: it fills as the bytes behind it need its entries."""

from typegate.reader import number_bytes
from typegate.texts import text_bytes

TAGS = {"class": 7, "string": 8, "field": 9, "method": 10, "interface method": 11, "pair": 12}


class Filling:
    """The entries that have been needed so far."""

    def __init__(self):
        self._indexes = {}
        self._entries = []
        self._many = 0

    def many(self):
        """Return how many indexes are taken."""
        return self._many

    def all_bytes(self):
        """Return the list of the bytes of all entries."""
        return [byte for entry in self._entries for byte in entry]

    def link(self, sort, *told):
        """Return the two bytes that lead to an entry."""
        return number_bytes(self.index_of(sort, *told), 2)

    def index_of(self, sort, *told):
        """Return the index of an entry; a new one gets the next that is free."""
        key = (sort, *told)
        if key not in self._indexes:
            self._add(key)
        return self._indexes[key]

    def _add(self, key):
        sort = key[0]
        entry = []
        self._entries.append(entry)
        self._indexes[key] = self._many + 1
        self._many += 2 if sort == "long" else 1
        # Only now come the entries that this one needs.
        if sort == "text":
            data = text_bytes(key[1])
            entry.extend([1] + number_bytes(len(data), 2) + data)
        elif sort == "int":
            entry.extend([3] + number_bytes(key[1], 4))
        elif sort == "long":
            entry.extend([5] + number_bytes(key[1], 8))
        else:
            entry.extend([TAGS[sort]] + self._links(key))

    def _links(self, key):
        """Return the bytes of the links of an entry."""
        sort, *told = key
        if sort in ("class", "string"):
            return self.link("text", told[0])
        if sort == "pair":
            return self.link("text", told[0]) + self.link("text", told[1])
        return self.link("class", told[0]) + self.link("pair", told[1], told[2])
