"""Which method overrides which, and which one is run by a call."""

from typegate.errors import NoMember
from typegate.kinds import is_tuple_of
from typegate.loading import interfaces_of, is_below, is_interface, line, loading_error, look_at_class, look_at_type
from typegate.members import method_flags, nearest_candidates, with_code
from typegate.names import is_array
from typegate.overriding import overridden
from typegate.resolving import CALLS, CHANGE, OBJECT, answer, look_at_row, type_for


def overrides(world, member, other):
    """Return whether one method overrides another one."""
    for thing in (member, other):
        if not _is_method(world, thing):
            raise NoMember(thing)
    return other in overridden_by(world, member)


def _is_method(world, thing):
    """Return whether any object is a method that a class of the world that loads well declares."""
    if not is_tuple_of(thing, 4):
        return False
    cls = thing[:2]
    if cls not in world.classes() or loading_error(world, cls) is not None:
        return False
    return method_flags(world, cls, thing[2], thing[3]) is not None


def overridden_by(world, member):
    """Return the list of the methods that a method overrides."""
    cls, name, descriptor = member[:2], member[2], member[3]
    flags = method_flags(world, cls, name, descriptor)
    if not is_open(flags):
        return []
    above = line(world, cls)
    methods = [_methods_of(world, one) for one in above]
    found = [above[k] for k in overridden(above, methods, name, descriptor)]
    for interface in interfaces_of(world, cls):
        if is_open(method_flags(world, interface, name, descriptor)):
            found.append(interface)
    return [(*one, name, descriptor) for one in found]


def is_open(flags):
    """Return whether there is a method with these flags, neither static nor private."""
    return flags is not None and "static" not in flags and "private" not in flags


def _methods_of(world, cls):
    return {(name, descriptor): flags for name, descriptor, flags, _ in world.file_of(cls).methods}


def called(world, user, method, row, actual):
    """Return the method that a call runs on an object of a class or array, an error name, or None for other rows."""
    look_at_class(world, user)
    look_at_row(row)
    if row[0] not in CALLS:
        return None
    if not _is_static_call(row):
        look_at_type(world, actual)
    found = answer(world, user, method, row)
    return found if isinstance(found, str) else chosen(world, user, row, found, actual)


def _is_static_call(row):
    return row[0] in ("invokestatic", "invokestatic_i")


def chosen(world, user, row, found, actual):
    """Return the method that a call runs, of which it is known what it has asked for and found."""
    if _is_static_call(row) or row[2] == "<init>":
        return found
    referred = type_for(world, user, row[1])
    if row[0] in ("invokespecial", "invokespecial_i"):
        return _chosen_specially(world, user, referred, found, actual)
    by_interface = row[0] == "invokeinterface"
    if by_interface and not is_below(world, actual, referred):
        return CHANGE
    if "private" in method_flags(world, found[:2], found[2], found[3]):
        return found
    told = first_along(world, found, actual)
    if told is None:
        return from_interfaces(world, OBJECT if is_array(actual[1]) else actual, found[2], found[3])
    flags = method_flags(world, told[:2], told[2], told[3])
    # It is not private, as one that is private stands for itself alone.
    if by_interface and "public" not in flags:
        return "IllegalAccessError"
    return "AbstractMethodError" if "abstract" in flags else told


def first_along(world, found, actual):
    """Return the first method along the line of a class or array that is the one found, or stands for it, or None."""
    name, descriptor = found[2:]
    of_interface = is_interface(world, found[:2])
    for cls in line(world, OBJECT if is_array(actual[1]) else actual):
        told = (*cls, name, descriptor)
        if of_interface:
            stands = is_open(method_flags(world, cls, name, descriptor))
        else:
            stands = told == found or found in overridden_by(world, told)
        if stands:
            return told
    return None


def from_interfaces(world, cls, name, descriptor):
    """Return the one nearest method of the interfaces of a class that is not abstract, or an error name."""
    nearest = nearest_candidates(world, cls, name, descriptor)
    told = with_code(world, nearest, name, descriptor)
    if len(told) == 0:
        return "AbstractMethodError"
    return (*told[0], name, descriptor) if len(told) == 1 else CHANGE


def _chosen_specially(world, user, referred, found, actual):
    name, descriptor = found[2:]
    if is_interface(world, user) and actual != user and not is_below(world, actual, user):
        return "IllegalAccessError"
    above = line(world, user)[1:]
    begin = above[0] if referred in above else referred
    for cls in line(world, begin):
        flags = method_flags(world, cls, name, descriptor)
        if flags is not None and "static" not in flags and _may_be_special(world, begin, cls, flags):
            return "AbstractMethodError" if "abstract" in flags else (*cls, name, descriptor)
    return from_interfaces(world, begin, name, descriptor)


def _may_be_special(world, begin, cls, flags):
    """Return whether a method along a line counts: of those of Object, an interface has the public ones alone."""
    return cls == begin or not is_interface(world, begin) or "public" in flags
