"""The rows of a machine for constants, locals, numbers, jumps and the order of the stack."""

from typegate.arithmetic import DIVISIONS, ONE_OPERAND, SHIFTS, computed, narrowed, negated, wrapped
from typegate.halts import Wrong
from typegate.taking import Taking, is_number, is_reference, places_for, want_sort

# How many places are moved, and how many below them they go around.
MOVED = {
    "pop": (1, 0), "pop2": (2, 0), "dup": (1, 0), "dup2": (2, 0), "dup_x1": (1, 1), "dup_x2": (1, 2),
    "dup2_x1": (2, 1), "dup2_x2": (2, 2), "swap": (1, 1),
}
NARROWING = {"i2b": "B", "i2c": "C", "i2s": "S"}


def do_nothing(_, frame, row):
    """Leave all as it is."""


def give_constant(_, frame, row):
    """Give null or a number."""
    if row[0] == "aconst_null":
        frame.stack.append(None)
    else:
        frame.stack.extend(places_for("I" if row[0] == "iconst" else "J", row[1]))


def load(run, frame, row):
    """Give what stands in a local."""
    word, at = row
    _want_local(frame, at, 2 if word == "lload" else 1)
    place = frame.places[at]
    _want_set(place)
    want_sort(_has_sort(place, word))
    frame.stack.extend(frame.places[at:at + 2] if word == "lload" else [place])


def _has_sort(place, word):
    if word.startswith("a"):
        return is_reference(place)
    return is_number(place, "long" if word.startswith("l") else "int")


def _want_local(frame, at, size):
    if at + size > len(frame.places):
        raise Wrong("local")


def _want_set(place):
    if place == "unset":
        raise Wrong("unset")


def store(run, frame, row):
    """Take what stands uppermost into a local."""
    word, at = row
    size = 2 if word == "lstore" else 1
    _want_local(frame, at, size)
    taking = Taking(run, frame, size)
    want_sort(_has_sort(taking.first(), word))
    if frame.places[at] == "half":
        frame.places[at - 1] = "unset"
    last = at + size
    if last < len(frame.places) and frame.places[last] == "half":
        frame.places[last] = "unset"
    frame.places[at:last] = taking.told_places()
    taking.drop()


def iinc(_, frame, row):
    """Make a local greater."""
    _, at, more = row
    _want_local(frame, at, 1)
    place = frame.places[at]
    _want_set(place)
    want_sort(is_number(place, "int"))
    frame.places[at] = ("int", wrapped(place[1] + more, 32))


def compute(run, frame, row):
    """Give what two numbers, or one, come to."""
    word = row[0]
    is_long = word.startswith("l")
    size = 2 if is_long else 1
    if word in ONE_OPERAND:
        taking = Taking(run, frame, size)
        result = negated(word, taking.long() if is_long else taking.number())
    else:
        has_long = is_long and word not in SHIFTS
        taking = Taking(run, frame, size + (2 if has_long else 1))
        one = taking.long() if is_long else taking.number()
        other = taking.long() if has_long else taking.number()
        if word in DIVISIONS and other == 0:
            run.throw("ArithmeticException")
        result = computed(word, one, other)
    taking.drop()
    frame.stack.extend(places_for("J" if is_long else "I", result))


def convert(run, frame, row):
    """Give a number as one of another sort."""
    word = row[0]
    taking = Taking(run, frame, 2 if word == "l2i" else 1)
    number = taking.long() if word == "l2i" else taking.number()
    taking.drop()
    if word == "i2l":
        frame.stack.extend(places_for("J", number))
    elif word == "l2i":
        frame.stack.append(("int", wrapped(number, 32)))
    else:
        frame.stack.append(("int", narrowed(NARROWING[word], number)))


def compare_longs(run, frame, row):
    """Give -1, 0 or 1."""
    taking = Taking(run, frame, 4)
    one = taking.long()
    other = taking.long()
    taking.drop()
    frame.stack.append(("int", (1 if one > other else 0) - (1 if one < other else 0)))


def jump(run, frame, row):
    """Return the index to which a row jumps, or None."""
    word, target = row
    if word == "goto":
        return target
    by_number = word not in ("ifnull", "ifnonnull", "if_acmpeq", "if_acmpne")
    taking = Taking(run, frame, 2 if "cmp" in word else 1)
    one = taking.number() if by_number else taking.any_reference()
    other = 0
    if "cmp" in word:
        other = taking.number() if by_number else taking.any_reference()
    taking.drop()
    return target if _holds(word, one, other) else None


def _holds(word, one, other):
    """Return whether the condition of a jump holds between what it takes."""
    if word in ("ifnull", "ifnonnull"):
        return (one is None) == (word == "ifnull")
    condition = word[-2:]
    if condition == "eq":
        return one == other
    if condition == "ne":
        return one != other
    if condition == "lt":
        return one < other
    if condition == "ge":
        return one >= other
    return one > other if condition == "gt" else one <= other


def switch(run, frame, row):
    """Return the index to which a switch leads."""
    _, pairs, target = row
    taking = Taking(run, frame, 1)
    number = taking.number()
    taking.drop()
    for key, leads in pairs:
        if key == number:
            return leads
    return target


def move(run, frame, row):
    """Take, copy or turn round the uppermost places."""
    word = row[0]
    many, below = MOVED[word]
    taking = Taking(run, frame, many + below)
    places = taking.told_places()
    _want_group(places[:below])
    _want_group(places[below:])
    taking.drop()
    if word == "swap":
        frame.stack.extend([places[1], places[0]])
    elif not word.startswith("pop"):
        frame.stack.extend(places[below:] + places)


def _want_group(places):
    """Stop the machine where a long stands without its half, or a half without its long."""
    # A long that is parted from its half leaves this half in the next group.
    want_sort("half" not in places or is_number(places[0], "long"))


MOVING = {
    "nop": do_nothing, "aconst_null": give_constant, "iconst": give_constant, "lconst": give_constant,
    "iload": load, "lload": load, "aload": load, "istore": store, "lstore": store, "astore": store, "iinc": iinc,
    "iadd": compute, "isub": compute, "imul": compute, "idiv": compute, "irem": compute, "ineg": compute,
    "iand": compute, "ior": compute, "ixor": compute, "ishl": compute, "ishr": compute, "iushr": compute,
    "ladd": compute, "lsub": compute, "lmul": compute, "ldiv": compute, "lrem": compute, "lneg": compute,
    "land": compute, "lor": compute, "lxor": compute, "lshl": compute, "lshr": compute, "lushr": compute,
    "i2l": convert, "l2i": convert, "i2b": convert, "i2c": convert, "i2s": convert, "lcmp": compare_longs,
    "ifeq": jump, "ifne": jump, "iflt": jump, "ifge": jump, "ifgt": jump, "ifle": jump,
    "if_icmpeq": jump, "if_icmpne": jump, "if_icmplt": jump, "if_icmpge": jump, "if_icmpgt": jump, "if_icmple": jump,
    "if_acmpeq": jump, "if_acmpne": jump, "ifnull": jump, "ifnonnull": jump, "goto": jump, "switch": switch,
    "pop": move, "pop2": move, "dup": move, "dup_x1": move, "dup_x2": move, "dup2": move, "dup2_x1": move,
    "dup2_x2": move, "swap": move,
}
