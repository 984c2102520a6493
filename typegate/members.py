"""Fields and methods: which classes declare them, and to whom they are accessible."""

from typegate.loading import interfaces_of, is_below
from typegate.packages import are_neighbours


def field_flags(world, cls, name, descriptor):
    """Return the flags of a field that a class declares, or None if it declares none."""
    field = _among(world.file_of(cls).fields, name, descriptor)
    return None if field is None else field[2]


def method_flags(world, cls, name, descriptor):
    """Return the flags of a method that a class declares, or None if it declares none."""
    method = declared_method(world, cls, name, descriptor)
    return None if method is None else method[2]


def declared_method(world, cls, name, descriptor):
    """Return a method as the ClassFile of a class tells it, or None if it declares none."""
    return _among(world.file_of(cls).methods, name, descriptor)


def _among(members, name, descriptor):
    for member in members:
        if member[0] == name and member[1] == descriptor:
            return member
    return None


def nearest_candidates(world, cls, name, descriptor):
    """Return the interfaces of a class that declare such a method and have none below them that does, too."""
    candidates = []
    for interface in interfaces_of(world, cls):
        flags = method_flags(world, interface, name, descriptor)
        if flags is not None and "private" not in flags and "static" not in flags:
            candidates.append(interface)
    nearest = []
    for one in candidates:
        if not any([is_below(world, other, one) for other in candidates]):
            nearest.append(one)
    return nearest


def with_code(world, interfaces, name, descriptor):
    """Return those of some interfaces whose method of this name and descriptor is not abstract."""
    return [cls for cls in interfaces if "abstract" not in method_flags(world, cls, name, descriptor)]


def is_member_accessible(world, user, referred, declaring, flags):
    """Return whether a class may use a member, with these flags, that is referred to by a class or array."""
    if "public" in flags:
        return True
    if "private" in flags:
        return user == declaring
    if are_neighbours(user, declaring):
        return True
    if "protected" not in flags or not is_below(world, user, declaring):
        return False
    if "static" in flags or referred == user:
        return True
    return is_below(world, referred, user) or is_below(world, user, referred)
