"""Which objects are of which types, and which values fit which descriptors."""

from typegate.loading import is_below, is_interface, loading_error
from typegate.names import held_by, is_array, type_name_of


def held_type(actual):
    """Return the class or array of what an array holds, or None if it holds numbers."""
    name = held_by(actual[1])
    if name is None:
        return None
    return (actual[0], name)


def is_of(world, one, other):
    """Return whether objects of one class or array are of another one, too."""
    if one == other or is_below(world, one, other):
        return True
    if not is_array(one[1]) or not is_array(other[1]):
        return False
    held, wanted = held_type(one), held_type(other)
    return held is not None and wanted is not None and is_of(world, held, wanted)


def object_fits(world, loader, actual, name):
    """Return whether an object of a class or array fits a type name, seen by the classes of a loader."""
    if is_array(name):
        return is_array(actual[1]) and _held_fits(world, loader, actual, name)
    found = world.class_for(loader, name)
    if found is None or loading_error(world, found) is not None or is_interface(world, found):
        return True
    return is_of(world, actual, found)


def _held_fits(world, loader, actual, name):
    wanted = held_by(name)
    if wanted is None:
        return actual[1] == name
    held = held_type(actual)
    return held is not None and object_fits(world, loader, held, wanted)


def is_known(world, loader, descriptor):
    """Return whether the class in a descriptor, if there is one, is there for a loader and loads well."""
    name = type_name_of(descriptor.lstrip("["))
    if name is None:
        return True
    found = world.class_for(loader, name)
    return found is not None and loading_error(world, found) is None
