"""The rules of the judge: what each instruction takes from the stack, and what it leaves there."""

from typegate.entries import entry_of
from typegate.names import array_of, held_by, result
from typegate.resolving import CALLS, FIELDS
from typegate.states import has_sort
from typegate.uses import call_method, use_field

THROWABLE = ("object", "Throwable")
OF_INTS = ("Z", "B", "S", "C", "I")

# The sorts that are taken, and the entries that are left, where these are always the same.
FIXED = {
    "nop": ((), ()), "goto": ((), ()),
    "aconst_null": ((), ("null",)), "iconst": ((), ("int",)), "lconst": ((), ("long",)),
    "string": ((), (("object", "String"),)), "class": ((), (("object", "Class"),)),
    "iadd": (("int", "int"), ("int",)), "isub": (("int", "int"), ("int",)), "imul": (("int", "int"), ("int",)),
    "idiv": (("int", "int"), ("int",)), "irem": (("int", "int"), ("int",)), "ineg": (("int",), ("int",)),
    "iand": (("int", "int"), ("int",)), "ior": (("int", "int"), ("int",)), "ixor": (("int", "int"), ("int",)),
    "ishl": (("int", "int"), ("int",)), "ishr": (("int", "int"), ("int",)), "iushr": (("int", "int"), ("int",)),
    "ladd": (("long", "long"), ("long",)), "lsub": (("long", "long"), ("long",)),
    "lmul": (("long", "long"), ("long",)), "ldiv": (("long", "long"), ("long",)),
    "lrem": (("long", "long"), ("long",)), "lneg": (("long",), ("long",)),
    "land": (("long", "long"), ("long",)), "lor": (("long", "long"), ("long",)),
    "lxor": (("long", "long"), ("long",)), "lshl": (("long", "int"), ("long",)),
    "lshr": (("long", "int"), ("long",)), "lushr": (("long", "int"), ("long",)),
    "i2l": (("int",), ("long",)), "l2i": (("long",), ("int",)), "lcmp": (("long", "long"), ("int",)),
    "i2b": (("int",), ("int",)), "i2c": (("int",), ("int",)), "i2s": (("int",), ("int",)),
    "ifeq": (("int",), ()), "ifne": (("int",), ()), "iflt": (("int",), ()),
    "ifge": (("int",), ()), "ifgt": (("int",), ()), "ifle": (("int",), ()), "switch": (("int",), ()),
    "if_icmpeq": (("int", "int"), ()), "if_icmpne": (("int", "int"), ()), "if_icmplt": (("int", "int"), ()),
    "if_icmpge": (("int", "int"), ()), "if_icmpgt": (("int", "int"), ()), "if_icmple": (("int", "int"), ()),
    "if_acmpeq": (("reference", "reference"), ()), "if_acmpne": (("reference", "reference"), ()),
    "ifnull": (("reference",), ()), "ifnonnull": (("reference",), ()),
    "monitorenter": (("reference",), ()), "monitorexit": (("reference",), ()),
    "instanceof": (("ready",), ("int",)), "arraylength": (("array",), ("int",)),
    "iaload": (("[I", "int"), ("int",)), "laload": (("[J", "int"), ("long",)),
    "baload": (("[B or [Z", "int"), ("int",)), "caload": (("[C", "int"), ("int",)),
    "saload": (("[S", "int"), ("int",)),
    "iastore": (("[I", "int", "int"), ()), "lastore": (("[J", "int", "long"), ()),
    "bastore": (("[B or [Z", "int", "int"), ()), "castore": (("[C", "int", "int"), ()),
    "sastore": (("[S", "int", "int"), ()), "aastore": (("array of references", "int", "ready"), ()),
    "pop": (("one place",), ()),
}
OF_LOCALS = {
    "iload": "int", "lload": "long", "aload": "reference", "istore": "int", "lstore": "long", "astore": "reference",
}


def apply_rule(task, state, row):
    """Change a state as an instruction does, or refuse it with the first word that applies."""
    if row[0] in FIELDS:
        use_field(task, state, row)
    elif row[0] in CALLS:
        call_method(task, state, row)
    else:
        rule = RULES.get(row[0], _keep_table)
        rule(task, state, row)


def _keep_table(_, state, row):
    takes, leaves = FIXED[row[0]]
    state.take(takes)
    state.stack.extend(list(leaves))


def _load(_, state, row):
    sort = OF_LOCALS[row[0]]
    _want_local(state, row[1], sort)
    entry = state.places[row[1]]
    state.want(has_sort(entry, sort), "sort")
    state.stack.append(entry)


def _want_local(state, at, sort):
    last = at + 1 if sort == "long" else at
    state.want(last < len(state.places), "local")


def _store(_, state, row):
    sort = OF_LOCALS[row[0]]
    at = row[1]
    _want_local(state, at, sort)
    state.want_entries(1)
    entry = state.stack.pop()
    state.want(has_sort(entry, sort), "sort")
    if at > 0 and state.places[at - 1] == "long":
        state.places[at - 1] = "top"
    state.places[at] = entry
    if sort == "long":
        state.places[at + 1] = "top"


def _iinc(_, state, row):
    _want_local(state, row[1], "int")
    state.want(state.places[row[1]] == "int", "sort")


def _make_object(_, state, row):
    made = ("new", state.index)
    state.want(made not in state.stack, "twice")
    state.put_all(made, "top")
    state.stack.append(made)


def _make_array(_, state, row):
    word = row[0]
    state.take(("int",) * (row[2] if word == "multianewarray" else 1))
    if word == "newarray":
        name = "[" + row[1]
    else:
        name = array_of(row[1]) if word == "anewarray" else row[1]
    state.stack.append(("object", name))


def _load_reference(_, state, row):
    state.want_entries(2)
    state.take(("int",))
    entry = state.stack[-1]
    state.take(("array of references",))
    state.stack.append("null" if entry == "null" else ("object", held_by(entry[1])))


def _cast(_, state, row):
    state.take(("ready",))
    state.stack.append(("object", row[1]))


def _throw(task, state, row):
    state.want_entries(1)
    state.want(task.can_stand(state.stack.pop(), THROWABLE), "sort")


def _return_number(task, state, row):
    is_int = row[0] == "ireturn"
    state.take(("int" if is_int else "long",))
    told = result(task.descriptor)
    state.want(told in OF_INTS if is_int else told == "J", "sort")


def _return_reference(task, state, row):
    state.want_entries(1)
    entry = state.stack.pop()
    told = result(task.descriptor)
    state.want(has_sort(entry, "ready") and told != "V" and task.can_stand(entry, entry_of(told)), "sort")


def _return_nothing(task, state, row):
    state.want(result(task.descriptor) == "V", "sort")
    state.want(not state.flag, "raw")


def _pop_group(_, state, row):
    many = _group_below(state, 0)
    del state.stack[len(state.stack) - many:]


def _swap(_, state, row):
    _want_singles(state, 0, 2)
    state.stack.append(state.stack.pop(-2))


def _copy_one(_, state, row):
    # The upper entry and the one below it are looked at together.
    below = 1 if row[0] == "dup_x1" else 0
    _want_singles(state, 0, 1 + below)
    _put_below(state, 1, below)


def _copy_one_below_group(_, state, row):
    _want_singles(state, 0, 1)
    _put_below(state, 1, _group_below(state, 1))


def _copy_group(_, state, row):
    many = _group_below(state, 0)
    below = 0
    if row[0] == "dup2_x1":
        _want_singles(state, many, 1)
        below = 1
    if row[0] == "dup2_x2":
        below = _group_below(state, many)
    _put_below(state, many, below)


def _want_singles(state, above, many):
    """Refuse an instruction, unless so many entries of one place each stand below some others."""
    state.want_entries(above + many)
    for k in range(above, above + many):
        state.want(has_sort(state.stack[-1 - k], "one place"), "sort")


def _group_below(state, above):
    """Return how many entries, one or two, make the group that stands below some others."""
    state.want_entries(above + 1)
    if state.stack[-1 - above] == "long":
        return 1
    _want_singles(state, above, 2)
    return 2


def _put_below(state, many, below):
    """Put the uppermost entries once more below some others that stand below them."""
    at = len(state.stack) - many - below
    state.stack = state.stack[:at] + state.stack[at + below:] + state.stack[at:]


RULES = {
    "iload": _load, "lload": _load, "aload": _load, "istore": _store, "lstore": _store, "astore": _store, "iinc": _iinc,
    "new": _make_object, "newarray": _make_array, "anewarray": _make_array, "multianewarray": _make_array,
    "aaload": _load_reference, "checkcast": _cast, "athrow": _throw,
    "ireturn": _return_number, "lreturn": _return_number, "areturn": _return_reference, "return": _return_nothing,
    "pop2": _pop_group, "swap": _swap, "dup": _copy_one, "dup_x1": _copy_one, "dup_x2": _copy_one_below_group,
    "dup2": _copy_group, "dup2_x1": _copy_group, "dup2_x2": _copy_group,
}
