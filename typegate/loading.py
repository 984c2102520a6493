"""What names denote, how classes load, and what stands above them."""

from typegate.errors import NoLoader, NotDefined, NotFound
from typegate.kinds import is_tuple_of
from typegate.names import innermost, is_array, is_class_name, is_type_name

ABOVE_ARRAYS = (("base", "Object"), ("base", "Cloneable"), ("base", "Serializable"))


def denoted(world, loader, name):
    """Return the class that a name denotes for a loader, or None."""
    look_at_loader(world, loader)
    if not is_class_name(name):
        return None
    return world.class_for(loader, name)


def look_at_loader(world, loader):
    """Raise NoLoader for what is no loader of the world."""
    if not world.has_loader(loader):
        raise NoLoader(loader)


def loading_error(world, cls):
    """Return the name of the error that a class has when it is loaded, or None."""
    # This one refuses what is no class of the world.
    world.file_of(cls)
    return world.lineage.error_of(cls)


def look_at_class(world, cls):
    """Raise NotDefined or NotFound for what is no class of the world that loads well."""
    error = loading_error(world, cls)
    if error is not None:
        raise NotFound(cls[1], error)


def looked_for(world, loader, name):
    """Return the class that a class name denotes for a loader, if it loads well."""
    found = denoted(world, loader, name)
    if found is None:
        raise NotFound(name, "NoClassDefFoundError")
    look_at_class(world, found)
    return found


def is_interface(world, cls):
    """Return whether a class is an interface."""
    return "interface" in world.file_of(cls).flags


def line(world, cls):
    """Return the list of a class, its parent, the parent's parent, up to Object."""
    look_at_class(world, cls)
    return world.lineage.line_of(cls)


def interfaces_of(world, cls):
    """Return the list of the interfaces of a class, the nearest ones first."""
    look_at_class(world, cls)
    return world.lineage.interfaces_of(cls)


def is_below(world, one, other):
    """Return whether one class or array stands below another one."""
    look_at_type(world, one)
    look_at_type(world, other)
    if _is_told_as_array(one):
        return other in ABOVE_ARRAYS
    return other in line(world, one)[1:] or other in interfaces_of(world, one)


def look_at_type(world, thing):
    """Raise NotDefined or NotFound for what is neither a class that loads well nor an array of such."""
    if not _is_told_as_array(thing):
        look_at_class(world, thing)
        return
    loader, name = thing
    inner = innermost(name)
    if inner is not None:
        look_at_class(world, (loader, inner))
    elif loader != "base":
        raise NotDefined(thing)


def _is_told_as_array(thing):
    return is_tuple_of(thing, 2) and is_type_name(thing[1]) and is_array(thing[1])
