"""The rules of the judge for fields and calls: what is taken, the object, and protected members."""

from typegate.entries import entry_of
from typegate.loading import line, looked_for
from typegate.members import field_flags, method_flags
from typegate.names import parameters, result
from typegate.packages import are_neighbours
from typegate.resolving import FIELDS, resolved_field, resolved_method
from typegate.states import is_object_of_array


def use_field(task, state, row):
    """Take and leave what an instruction for a field does."""
    word, _, _, descriptor = row
    puts = word in ("putstatic", "putfield")
    has_object = word in ("getfield", "putfield")
    state.want_entries((1 if puts else 0) + (1 if has_object else 0))
    if puts:
        _take_fitting(task, state, descriptor)
    if has_object:
        entry = state.stack.pop()
        if word == "getfield" or entry != "this" or not _is_own_field(task, row):
            _look_at_object(task, state, row, entry)
    if not puts:
        state.stack.append(entry_of(descriptor))


def _take_fitting(task, state, descriptor):
    """Take an entry that fits the type of a descriptor."""
    state.want(task.can_stand(state.stack.pop(), entry_of(descriptor)), "sort")


def _is_own_field(task, row):
    """Return whether an instruction names a field that the class itself declares, and that is not static."""
    _, owner, name, descriptor = row
    if owner != task.cls[1]:
        return False
    flags = field_flags(task.world, task.cls, name, descriptor)
    return flags is not None and "static" not in flags


def _look_at_object(task, state, row, entry):
    """Refuse an object that does not fit the named class, or on which a protected member may not be used."""
    state.want(task.can_stand(entry, ("object", row[1])), "sort")
    # A call by an interface finds no member by a class.
    if row[0] == "invokeinterface" or not _is_protected_above(task, row) or _is_copied_array(row, entry):
        return
    state.want(task.can_stand(entry, task.own_entry()), "protected")


def _is_protected_above(task, row):
    """Return whether an instruction uses, by a parent of the class, a protected member of another package."""
    parents = line(task.world, task.cls)[1:]
    return task.world.class_for(task.cls[0], row[1]) in parents and _is_protected_elsewhere(task, row)


def _is_protected_elsewhere(task, row):
    """Return whether an instruction uses a member that is protected, not static, and of another package."""
    reference = row[1:]
    of_field = row[0] in FIELDS
    if of_field:
        found = resolved_field(task.world, task.cls, reference)
    else:
        found = resolved_method(task.world, task.cls, reference)
    if isinstance(found, str) or are_neighbours(found[:2], task.cls):
        return False
    flags_of = field_flags if of_field else method_flags
    flags = flags_of(task.world, found[:2], found[2], found[3])
    return "protected" in flags and "static" not in flags


def _is_copied_array(row, entry):
    return is_object_of_array(entry) and row[2:] == ("clone", "()LObject;")


def call_method(task, state, row):
    """Take and leave what a call does."""
    word, _, name, descriptor = row
    sorts = parameters(descriptor)
    has_object = word not in ("invokestatic", "invokestatic_i")
    state.want_entries(len(sorts) + (1 if has_object else 0))
    for parameter in reversed(sorts):
        _take_fitting(task, state, parameter)
    if name == "<init>":
        _make_ready(task, state, row)
    elif word in ("invokespecial", "invokespecial_i"):
        state.want(_may_be_special(task, row[1]), "special")
        state.want(task.can_stand(state.stack.pop(), task.own_entry()), "sort")
    elif has_object:
        _look_at_object(task, state, row, state.stack.pop())
    if result(descriptor) != "V":
        state.stack.append(entry_of(result(descriptor)))


def _may_be_special(task, name):
    """Return whether a name denotes the class itself, one of its parents or an interface that it names."""
    named = looked_for(task.world, task.cls[0], name)
    interfaces = task.world.file_of(task.cls).interfaces
    above = [task.world.class_for(task.cls[0], interface) for interface in interfaces]
    return named in line(task.world, task.cls) + above


def _make_ready(task, state, row):
    """Take the object of an <init> that is called, and make it ready wherever it stands."""
    entry = state.stack.pop()
    if entry == "this":
        state.want(row[1] in (task.cls[1], task.parent_name()), "sort")
        state.put_all("this", task.own_entry())
        state.flag = False
        return
    state.want(isinstance(entry, tuple) and entry[0] == "new", "sort")
    state.want(task.code.rows[entry[1]][1] == row[1], "sort")
    state.want(not _is_protected_elsewhere(task, row), "protected")
    state.put_all(entry, ("object", row[1]))
