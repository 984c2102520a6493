"""The pool of a file that is read: its entries, and what they lead to."""

from typegate.errors import NoText
from typegate.instructions import LONGEST_STRING
from typegate.names import is_array, is_field_descriptor, is_method_descriptor, is_method_name, is_name, is_type_name
from typegate.names import result
from typegate.reader import want
from typegate.texts import bytes_text

LEFT_OUT_TAGS = (4, 6, 15, 16, 17, 18, 19, 20)
# The sort of the entries with each tag, and the sorts of those to which they lead.
SORTS = {
    1: "text", 3: "int", 5: "long", 7: "class", 8: "string", 9: "field", 10: "method", 11: "interface method",
    12: "pair",
}
LINKS = {
    "text": (), "int": (), "long": (), "class": ("text",), "string": ("text",), "pair": ("text", "text"),
    "field": ("class", "pair"), "method": ("class", "pair"), "interface method": ("class", "pair"),
}


class Pool:
    """The entries of a pool by their indexes: (sort, what it tells), and the places of their tags."""

    def __init__(self):
        self._entries = {}
        self._places = {}

    def keep(self, index, place, entry):
        """Keep an entry that is told at a place."""
        self._entries[index] = entry
        self._places[index] = place

    def sort_of(self, index):
        """Return the sort of the entry with an index, or None if there is none."""
        return self._entries[index][0] if index in self._entries else None

    def told(self, index):
        """Return the text or the number that an entry tells."""
        return self._entries[index][1]

    def text(self, index):
        """Return the text to which a class or a string leads."""
        return self.told(self.told(index)[0])

    def named_member(self, index):
        """Return the class name, the name and the descriptor to which an entry for a member leads."""
        cls, pair = self.told(index)
        name, descriptor = self.told(pair)
        return (self.text(cls), self.told(name), self.told(descriptor))

    def look_at_links(self):
        """Refuse the first entry that leads where it may not."""
        for index in self._entries:
            word = _word_for_links(self, index)
            want(word is None, self._places[index], word)


def read_pool(reader):
    """Return the Pool that is told next."""
    begin = reader.at
    many = reader.number(2)
    want(many > 0, begin, "pool")
    pool = Pool()
    index = 1
    while index < many:
        place = reader.at
        entry = _read_entry(reader)
        pool.keep(index, place, entry)
        index += 1
        if entry[0] == "long":
            want(index < many, place, "pool")
            index += 1
    pool.look_at_links()
    return pool


def _read_entry(reader):
    place = reader.at
    tag = reader.number(1)
    want(tag not in LEFT_OUT_TAGS, place, "out")
    want(tag in SORTS, place, "tag")
    sort = SORTS[tag]
    if sort == "text":
        return (sort, _read_text(reader, place))
    if sort == "int":
        return (sort, reader.signed(4))
    if sort == "long":
        return (sort, reader.signed(8))
    return (sort, tuple([reader.number(2) for _ in LINKS[sort]]))


def _read_text(reader, place):
    data = reader.next_bytes(reader.number(2))
    try:
        text = bytes_text(data)
    except NoText:
        text = None
    want(text is not None, place, "text")
    return text


def read_link(reader, pool, sort):
    """Return the index that is told next, which must be that of an entry of this sort."""
    place = reader.at
    index = reader.number(2)
    want(pool.sort_of(index) == sort, place, "link")
    return index


def read_text(reader, pool):
    """Return the text to which the next link leads."""
    return pool.told(read_link(reader, pool, "text"))


def _word_for_links(pool, index):
    """Return the first word that applies to what an entry leads to, or None."""
    sort = pool.sort_of(index)
    sorts = LINKS[sort]
    if len(sorts) == 0:
        return None
    links = pool.told(index)
    if not all([pool.sort_of(link) == wanted for link, wanted in zip(links, sorts)]):
        return "link"
    if sort == "class":
        return None if is_type_name(pool.text(index)) else "name"
    if sort == "string":
        return None if len(pool.text(index)) <= LONGEST_STRING else "large"
    if sort == "pair":
        return _word_for_pair(pool.told(links[0]), pool.told(links[1]))
    return _word_for_member(pool, sort, links)


def _word_for_pair(name, descriptor):
    if not is_method_name(name):
        return "name"
    if not is_field_descriptor(descriptor) and not is_method_descriptor(descriptor):
        return "descriptor"
    return None


def _word_for_member(pool, sort, links):
    cls = _text_at(pool, pool.told(links[0])[0])
    name, descriptor = [_text_at(pool, link) for link in pool.told(links[1])]
    if sort == "method":
        is_right_name = name != "<clinit>"
    else:
        is_right_name = not _is_name_of_array(cls) and (name is None or is_name(name))
    if not is_right_name:
        return "name"
    if descriptor is not None and not _is_right_descriptor(sort, name, descriptor):
        return "descriptor"
    return None


def _text_at(pool, index):
    """Return the text at an index, or None where another entry leads wrongly: that is told at its own place."""
    return pool.told(index) if pool.sort_of(index) == "text" else None


def _is_name_of_array(text):
    return is_type_name(text) and is_array(text)


def _is_right_descriptor(sort, name, descriptor):
    if sort == "field":
        return is_field_descriptor(descriptor)
    return is_method_descriptor(descriptor) and (name != "<init>" or result(descriptor) == "V")
