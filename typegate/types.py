"""The entries of frames as sorts of values: which one can stand for which, and the least one for two."""

from typegate.entries import is_entry
from typegate.errors import NoEntry
from typegate.loading import denoted, is_interface, line, look_at_loader, looked_for
from typegate.names import array_of, held_by, is_array

# A code has at most so many instructions that can make an object.
MOST_MADE = 65536
INTERFACES_OF_ARRAYS = ("Cloneable", "Serializable")


def fits(world, loader, one, other, *, loose=False):
    """Return whether an entry can stand where another one is told."""
    _look_at_arguments(world, loader, one, other)
    if one == other or other == "top":
        return True
    if not _is_object(other):
        return False
    if one == "null":
        return True
    return _is_object(one) and _name_fits(world, loader, one[1], other[1], loose)


def _look_at_arguments(world, loader, one, other):
    look_at_loader(world, loader)
    for entry in (one, other):
        if not is_entry(entry, MOST_MADE):
            raise NoEntry(entry)


def _is_object(entry):
    return isinstance(entry, tuple) and entry[0] == "object"


def _name_fits(world, loader, name, wanted, loose):
    """Return whether objects of one type name can stand where those of another, unequal one are told."""
    if wanted == "Object":
        return True
    if is_array(wanted):
        return is_array(name) and _held_fits(world, loader, held_by(name), held_by(wanted), loose)
    if is_array(name):
        return _array_fits(world, loader, wanted, loose)
    target = looked_for(world, loader, wanted)
    if is_interface(world, target):
        return True
    return target in line(world, looked_for(world, loader, name))


def _held_fits(world, loader, held, wanted, loose):
    # What unequal arrays hold is unequal, too, and a letter stands for itself alone.
    if held is None or wanted is None:
        return False
    return _name_fits(world, loader, held, wanted, loose)


def _array_fits(world, loader, wanted, loose):
    """Return whether any array can stand where a class, but Object, is told."""
    if wanted in INTERFACES_OF_ARRAYS:
        return True
    if not loose:
        return False
    return is_interface(world, looked_for(world, loader, wanted))


def least(world, loader, one, other):
    """Return the least entry for which both fit."""
    _look_at_arguments(world, loader, one, other)
    if one == other:
        return one
    if _is_object(one) and other == "null":
        return one
    if _is_object(other) and one == "null":
        return other
    if _is_object(one) and _is_object(other):
        return ("object", _least_name(world, loader, one[1], other[1]))
    return "top"


def _least_name(world, loader, name, other):
    """Return the type name of the least entry for objects of two unequal type names."""
    if not is_array(name) and not is_array(other):
        return _least_class(world, loader, name, other)
    if not is_array(name) or not is_array(other):
        return "Object"
    held, held_by_other = held_by(name), held_by(other)
    if held is None or held_by_other is None:
        return "Object"
    return array_of(_least_name(world, loader, held, held_by_other))


def _least_class(world, loader, name, other):
    """Return the name of the nearest parent of two classes that the loader knows by its name."""
    one = looked_for(world, loader, name)
    two = looked_for(world, loader, other)
    above = line(world, two)
    common = [cls for cls in line(world, one) if cls in above]
    # Object is always among them, as no loader has another one, and for interfaces it stands alone.
    return [cls[1] for cls in common if denoted(world, loader, cls[1]) == cls][0]
