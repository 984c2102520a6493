"""What the names of types, fields and methods come to for the class that uses them."""

from typegate.errors import NoReference, NoRow, NoType
from typegate.instructions import ascends, is_instruction
from typegate.kinds import is_tuple_of
from typegate.loading import interfaces_of, is_interface, line, loading_error, look_at_class
from typegate.members import field_flags, is_member_accessible, method_flags, nearest_candidates, with_code
from typegate.names import innermost, is_array, is_type_name
from typegate.packages import is_accessible

OBJECT = ("base", "Object")
CHANGE = "IncompatibleClassChangeError"

# Whether the field of each word is static, and the method that alone may put one that is final.
FIELDS = {
    "getstatic": (True, None),
    "putstatic": (True, "<clinit>"),
    "getfield": (False, None),
    "putfield": (False, "<init>"),
}
# Whether each word calls a method by an interface, and whether this method is static.
CALLS = {
    "invokevirtual": (False, False),
    "invokeinterface": (True, False),
    "invokestatic": (False, True),
    "invokestatic_i": (True, True),
    "invokespecial": (False, False),
    "invokespecial_i": (True, False),
}
OF_TYPES = ("class", "checkcast", "instanceof", "anewarray", "multianewarray")


def resolved_type(world, user, name):
    """Return the class or array that a type name comes to for a user, or an error name."""
    look_at_class(world, user)
    if not is_type_name(name):
        raise NoType(name)
    return type_for(world, user, name)


def resolved_field(world, user, reference):
    """Return the member that a reference to a field comes to for a user, or an error name."""
    look_at_class(world, user)
    _look_at_reference(reference)
    return _field_for(world, user, reference)


def resolved_method(world, user, reference):
    """Return the member that a reference to a method comes to for a user, or an error name."""
    look_at_class(world, user)
    _look_at_reference(reference)
    return _method_for(world, user, reference)


def _look_at_reference(thing):
    if not is_tuple_of(thing, 3) or not all([isinstance(part, str) for part in thing]) or not is_type_name(thing[0]):
        raise NoReference(thing)


def type_for(world, user, name):
    """Return the same as resolved_type, for arguments that are known to be right."""
    inner = innermost(name) if is_array(name) else name
    if inner is None:
        return ("base", name)
    found = world.class_for(user[0], inner)
    if found is None:
        return "NoClassDefFoundError"
    error = loading_error(world, found)
    if error is not None:
        return error
    if not is_accessible(found, world.file_of(found).flags, user):
        return "IllegalAccessError"
    return (found[0], name)


def _field_for(world, user, reference):
    name, descriptor = reference[1:]
    found = type_for(world, user, reference[0])
    if isinstance(found, str):
        return found
    declaring = None if is_array(reference[0]) else _class_of_field(world, found, name, descriptor)
    if declaring is None:
        return "NoSuchFieldError"
    flags = field_flags(world, declaring, name, descriptor)
    if not is_member_accessible(world, user, found, declaring, flags):
        return "IllegalAccessError"
    return (*declaring, name, descriptor)


def _class_of_field(world, cls, name, descriptor):
    """Return the first class that declares a field, from a class upwards, or None."""
    for one in line(world, cls):
        for place in [one] + _named_interfaces(world, one):
            if field_flags(world, place, name, descriptor) is not None:
                return place
    return None


def _named_interfaces(world, cls):
    """Return the interfaces that a class itself names, each one ahead of those that it names in its turn."""
    found = []
    for name in world.file_of(cls).interfaces:
        interface = world.class_for(cls[0], name)
        found += [interface] + interfaces_of(world, interface)
    return found


def _method_for(world, user, reference):
    name, descriptor = reference[1:]
    found = type_for(world, user, reference[0])
    if isinstance(found, str):
        return found
    of_array = is_array(reference[0])
    declaring = _class_of_method(world, OBJECT if of_array else found, name, descriptor)
    if declaring is None:
        return "NoSuchMethodError"
    flags = method_flags(world, declaring, name, descriptor)
    # Nothing but clone is protected in Object, and every array may be copied.
    if not of_array and not is_member_accessible(world, user, found, declaring, flags):
        return "IllegalAccessError"
    return (*declaring, name, descriptor)


def _class_of_method(world, cls, name, descriptor):
    """Return the class whose method a name and a descriptor come to at a class or an interface, or None."""
    if is_interface(world, cls):
        if method_flags(world, cls, name, descriptor) is not None:
            return cls
        flags = method_flags(world, OBJECT, name, descriptor)
        # No method of Object is static.
        if flags is not None and "public" in flags:
            return OBJECT
    else:
        for one in line(world, cls):
            if method_flags(world, one, name, descriptor) is not None:
                return one
    nearest = nearest_candidates(world, cls, name, descriptor)
    told = with_code(world, nearest, name, descriptor)
    if len(told) == 1:
        return told[0]
    return nearest[0] if len(nearest) > 0 else None


def asked(world, user, method, row):
    """Return what an instruction of a method of a user resolves, an error name, or None if it asks for nothing."""
    look_at_class(world, user)
    look_at_row(row)
    return answer(world, user, method, row)


def look_at_row(thing):
    """Raise NoRow for what is no instruction."""
    if not is_instruction(thing) or not ascends(thing):
        raise NoRow(thing)


def answer(world, user, method, row):
    """Return the same as asked, for arguments that are known to be right."""
    word = row[0]
    if word in FIELDS:
        return _asked_field(world, user, method, row)
    if word in CALLS:
        return _asked_method(world, user, row)
    if word == "new":
        return _asked_class(world, user, row[1])
    return type_for(world, user, row[1]) if word in OF_TYPES else None


def _asked_field(world, user, method, row):
    wants_static, only_in = FIELDS[row[0]]
    found = _field_for(world, user, row[1:])
    if isinstance(found, str):
        return found
    flags = field_flags(world, found[:2], found[2], found[3])
    if ("static" in flags) != wants_static:
        return CHANGE
    if only_in is not None and "final" in flags and (found[:2] != user or method != only_in):
        return "IllegalAccessError"
    return found


def _asked_method(world, user, row):
    by_interface, wants_static = CALLS[row[0]]
    referred = type_for(world, user, row[1])
    if isinstance(referred, str):
        return referred
    if (not is_array(row[1]) and is_interface(world, referred)) != by_interface:
        return CHANGE
    found = _method_for(world, user, row[1:])
    if isinstance(found, str):
        return found
    if ("static" in method_flags(world, found[:2], found[2], found[3])) != wants_static:
        return CHANGE
    if row[2] == "<init>" and found[:2] != referred:
        return "NoSuchMethodError"
    return found


def _asked_class(world, user, name):
    found = type_for(world, user, name)
    if isinstance(found, str):
        return found
    # Every interface is abstract.
    return "InstantiationError" if "abstract" in world.file_of(found).flags else found
