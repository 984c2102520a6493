"""Classes as files of bytes: reading them, and writing them."""

from typegate.classes import ClassFile
from typegate.errors import NoBytes, NoClass, NoWriting
from typegate.filling import Filling
from typegate.forms import fault
from typegate.names import is_array
from typegate.pools import read_link, read_pool
from typegate.reader import Ended, Reader, number_bytes, want
from typegate.reading import read_attributes, read_field, read_method, words_in
from typegate.texts import is_row_of_bytes
from typegate.writing import field_bytes, flags_number, method_bytes

MAGIC = 3405691582
LEAST_VERSION = 52
GREATEST_VERSION = 69
LEFT_OUT_FLAG = 32768
# Every class that is no interface has it; it has no word.
FLAG_OF_CLASSES = 32
OF_CLASSES = {1: "public", 16: "final", 512: "interface", 1024: "abstract"}
MOST_INDEXES = 65534


def read(data):
    """Return the ClassFile that is told by a row of bytes."""
    if not is_row_of_bytes(data):
        raise NoBytes()
    try:
        return _read_class(Reader(tuple(data), 0, len(data)))
    except Ended:
        raise NoClass(len(data), "cut")


def _read_class(reader):
    want(reader.number(4) == MAGIC, 0, "magic")
    place = reader.at
    version = reader.number(4)
    want(LEAST_VERSION <= version <= GREATEST_VERSION, place, "version")
    pool = read_pool(reader)
    place = reader.at
    number = reader.number(2)
    want(number & LEFT_OUT_FLAG == 0, place, "out")
    name = _read_class_name(reader, pool)
    parent = _read_parent(reader, pool)
    interfaces = [_read_class_name(reader, pool) for _ in range(reader.number(2))]
    fields = [read_field(reader, pool) for _ in range(reader.number(2))]
    methods = [read_method(reader, pool, name) for _ in range(reader.number(2))]
    read_attributes(reader, pool, None)
    want(reader.is_done(), reader.at, "end")
    return ClassFile(name, parent, interfaces, words_in(number, dict(OF_CLASSES)), fields, methods)


def _read_class_name(reader, pool):
    place = reader.at
    name = pool.text(read_link(reader, pool, "class"))
    want(not is_array(name), place, "name")
    return name


def _read_parent(reader, pool):
    """Return the name of the parent, or None where the link is 0."""
    if reader.next_bytes(2) == (0, 0):
        return None
    reader.at -= 2
    return _read_class_name(reader, pool)


def written(file):
    """Return the list of the bytes that tell a ClassFile."""
    # This one refuses what is no ClassFile.
    if fault(file) is not None:
        raise NoWriting("form", -1)
    pool = Filling()
    body = _body_bytes(file, pool)
    if pool.many() > MOST_INDEXES:
        raise NoWriting("large", -1)
    head = number_bytes(MAGIC, 4) + number_bytes(LEAST_VERSION, 4) + number_bytes(pool.many() + 1, 2)
    return head + pool.all_bytes() + body


def _body_bytes(file, pool):
    """Return the list of the bytes behind the pool, and fill the pool with what they need."""
    number = flags_number(file.flags, dict(OF_CLASSES))
    if "interface" not in file.flags:
        number += FLAG_OF_CLASSES
    data = number_bytes(number, 2) + pool.link("class", file.name)
    data += [0, 0] if file.parent is None else pool.link("class", file.parent)
    data += number_bytes(len(file.interfaces), 2)
    for name in file.interfaces:
        data += pool.link("class", name)
    data += number_bytes(len(file.fields), 2)
    for field in file.fields:
        data += field_bytes(field, pool)
    data += number_bytes(len(file.methods), 2)
    for number, method in enumerate(file.methods):
        data += method_bytes(file.name, number, method, pool)
    return data + [0, 0]
