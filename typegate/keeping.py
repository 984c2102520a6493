"""The rows of a machine for fields, objects, arrays, casts, and monitors."""

from typegate.arithmetic import narrowed
from typegate.halts import Thrown
from typegate.kin import held_type, is_of
from typegate.names import is_array, places_of
from typegate.taking import Taking, places_for

THROWABLE = ("base", "Throwable")
# The arrays that each letter of a row for arrays may stand for.
ARRAYS = {"i": ("[I",), "l": ("[J",), "b": ("[B", "[Z"), "c": ("[C",), "s": ("[S",)}


def give_constant_object(run, frame, row):
    """Give the String of a text, or the Class of what a row asks for."""
    word, told = row
    if word == "string":
        frame.stack.append(run.memory.string(told))
    else:
        frame.stack.append(run.memory.class_object(run.asked(frame, row)))


def get_static(run, frame, row):
    """Give a static field."""
    member = run.asked(frame, row)
    run.see_begun(member[:2])
    frame.stack.extend(places_for(member[3], run.memory.static_value(member)))


def put_static(run, frame, row):
    """Take what becomes a static field."""
    taking = Taking(run, frame, places_of([row[3]]))
    member = run.asked(frame, row)
    value = taking.value(member[3], member[:2])
    run.see_begun(member[:2])
    taking.drop()
    run.memory.static_values[member] = narrowed(member[3], value)


def get_field(run, frame, row):
    """Give a field of an object."""
    taking = Taking(run, frame, 1)
    member = run.asked(frame, row)
    reference = taking.ready_reference()
    taking.want_kind(reference is None or member in run.memory.thing(reference).fields)
    _want_object(run, reference)
    taking.drop()
    frame.stack.extend(places_for(member[3], run.memory.thing(reference).fields[member]))


def put_field(run, frame, row):
    """Take an object, and what becomes a field of it."""
    taking = Taking(run, frame, 1 + places_of([row[3]]))
    member = run.asked(frame, row)
    # The object of a frame is raw only in an <init>.
    if frame.cls == member[:2] and taking.first() == frame.own:
        reference = taking.any_reference()
    else:
        reference = taking.ready_reference()
    taking.want_kind(reference is None or member in run.memory.thing(reference).fields)
    value = taking.value(member[3], member[:2])
    _want_object(run, reference)
    taking.drop()
    thing = run.memory.thing(reference)
    thing.fields[member] = narrowed(member[3], value)


def _want_object(run, reference):
    if reference is None:
        run.throw("NullPointerException")


def make_object(run, frame, row):
    """Give a new object, which is raw."""
    cls = run.asked(frame, row)
    run.see_begun(cls)
    reference = run.memory.made_object(cls)
    thing = run.memory.thing(reference)
    thing.raw = True
    frame.stack.append(reference)


def make_array(run, frame, row):
    """Take a size, and give a new array."""
    taking = Taking(run, frame, 1)
    if row[0] == "newarray":
        actual = ("base", "[" + row[1])
    else:
        held = run.asked(frame, row)
        actual = (held[0], "[" + held[1] if is_array(held[1]) else "[L" + held[1] + ";")
    many = taking.number()
    if many < 0:
        run.throw("NegativeArraySizeException")
    taking.drop()
    frame.stack.append(run.memory.made_array(actual, many))


def make_arrays(run, frame, row):
    """Take sizes, and give a new array with arrays in it."""
    taking = Taking(run, frame, row[2])
    actual = run.asked(frame, row)
    sizes = [taking.number() for _ in range(row[2])]
    if min(sizes) < 0:
        run.throw("NegativeArraySizeException")
    taking.drop()
    frame.stack.append(_nested(run.memory, actual, sizes))


def _nested(memory, actual, sizes):
    """Return the reference of a new array whose items are arrays of the further sizes."""
    reference = memory.made_array(actual, sizes[0])
    thing = memory.thing(reference)
    if len(sizes) > 1:
        for k in range(sizes[0]):
            thing.cells[k] = _nested(memory, held_type(actual), sizes[1:])
    return reference


def measure(run, frame, row):
    """Take an array, and give its length."""
    taking = Taking(run, frame, 1)
    reference = taking.ready_reference()
    taking.want_kind(reference is None or run.memory.thing(reference).cells is not None)
    _want_object(run, reference)
    taking.drop()
    frame.stack.append(("int", len(run.memory.thing(reference).cells)))


def _take_array(run, taking, word):
    """Return the reference of an array of the sort that a row wants, or null."""
    reference = taking.ready_reference()
    if reference is not None:
        thing = run.memory.thing(reference)
        taking.want_kind(thing.cells is not None and _is_of_sort(thing.actual, word))
    return reference


def _is_of_sort(actual, word):
    if word.startswith("a"):
        return held_type(actual) is not None
    return actual[1] in ARRAYS[word[0]]


def _want_index(run, reference, index):
    _want_object(run, reference)
    if not 0 <= index < len(run.memory.thing(reference).cells):
        run.throw("ArrayIndexOutOfBoundsException")


def load_item(run, frame, row):
    """Take an array and an index, and give the item."""
    taking = Taking(run, frame, 2)
    reference = _take_array(run, taking, row[0])
    index = taking.number()
    _want_index(run, reference, index)
    taking.drop()
    thing = run.memory.thing(reference)
    frame.stack.extend(places_for(thing.actual[1][1:], thing.cells[index]))


def store_item(run, frame, row):
    """Take an array, an index, and what becomes the item."""
    word = row[0]
    taking = Taking(run, frame, 4 if word == "lastore" else 3)
    reference = _take_array(run, taking, word)
    index = taking.number()
    if word == "aastore":
        value = taking.ready_reference()
    else:
        value = taking.long() if word == "lastore" else taking.number()
    _want_index(run, reference, index)
    thing = run.memory.thing(reference)
    if word == "aastore" and value is not None:
        if not is_of(run.memory.world, run.memory.thing(value).actual, held_type(thing.actual)):
            run.throw("ArrayStoreException")
    taking.drop()
    thing.cells[index] = narrowed(thing.actual[1][1:], value)


def cast(run, frame, row):
    """Take an object; give it again, or whether it is of a type."""
    taking = Taking(run, frame, 1)
    wanted = run.asked(frame, row) if taking.first() is not None else None
    reference = taking.ready_reference()
    is_right = reference is not None and is_of(run.memory.world, run.memory.thing(reference).actual, wanted)
    if row[0] == "checkcast" and reference is not None and not is_right:
        run.throw("ClassCastException")
    taking.drop()
    frame.stack.append(reference if row[0] == "checkcast" else ("int", 1 if is_right else 0))


def throw_object(run, frame, row):
    """Take an object, and throw it."""
    taking = Taking(run, frame, 1)
    reference = taking.ready_reference()
    taking.want_kind(reference is None or is_of(run.memory.world, run.memory.thing(reference).actual, THROWABLE))
    _want_object(run, reference)
    raise Thrown(reference)


def use_monitor(run, frame, row):
    """Take an object, and enter or leave its monitor."""
    taking = Taking(run, frame, 1)
    reference = taking.any_reference()
    _want_object(run, reference)
    thing = run.memory.thing(reference)
    if row[0] == "monitorexit" and thing.entered == 0:
        run.throw("IllegalMonitorStateException")
    taking.drop()
    thing.entered += 1 if row[0] == "monitorenter" else -1


KEEPING = {
    "string": give_constant_object, "class": give_constant_object,
    "getstatic": get_static, "putstatic": put_static, "getfield": get_field, "putfield": put_field,
    "new": make_object, "newarray": make_array, "anewarray": make_array, "multianewarray": make_arrays,
    "arraylength": measure,
    "iaload": load_item, "laload": load_item, "aaload": load_item, "baload": load_item, "caload": load_item,
    "saload": load_item,
    "iastore": store_item, "lastore": store_item, "aastore": store_item, "bastore": store_item,
    "castore": store_item, "sastore": store_item,
    "checkcast": cast, "instanceof": cast, "athrow": throw_object,
    "monitorenter": use_monitor, "monitorexit": use_monitor,
}
