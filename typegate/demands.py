"""Demands: the names that two loaders must answer alike."""

from typegate.base import is_base_name
from typegate.classes import Code
from typegate.loading import interfaces_of, is_interface, line, loading_error
from typegate.names import is_field_descriptor, parameters, result, type_name_of
from typegate.resolving import asked
from typegate.selecting import chosen, first_along, from_interfaces, is_open, overridden_by


def names_of(descriptor):
    """Return the list of the names of classes in a descriptor, but those of base classes."""
    if is_field_descriptor(descriptor):
        sorts = [descriptor]
    else:
        # These refuse what is no descriptor of a method.
        sorts = parameters(descriptor) + [result(descriptor)]
    found = {}
    for sort in sorts:
        name = None if sort == "V" else type_name_of(sort.lstrip("["))
        if name is not None and not is_base_name(name):
            found[name] = True
    return list(found)


def _between(descriptor, one, other):
    """Return the list of the demands between two loaders for the names of a descriptor."""
    if one == other:
        return []
    return [(name, min(one, other), max(one, other)) for name in names_of(descriptor)]


def _in_order(demands):
    return sorted(set(demands))


def use_demands(world, user, method, row):
    """Return the sorted list of the demands that come from one instruction of a method of a class."""
    found = asked(world, user, method, row)
    # A member tells where it is declared; types and errors demand nothing.
    if not isinstance(found, tuple) or len(found) != 4:
        return []
    demands = _between(found[3], user[0], found[0])
    if row[0] in ("invokespecial", "invokespecial_i"):
        told = chosen(world, user, row, found, user)
        if not isinstance(told, str):
            demands += _between(found[3], user[0], told[0])
    return _in_order(demands)


def class_demands(world, cls):
    """Return the sorted list of the demands that come from what a class declares, overrides and inherits."""
    demands = []
    # This one refuses what is no class that loads well.
    above = line(world, cls)
    for name, descriptor, _, _ in world.file_of(cls).methods:
        for member in overridden_by(world, (*cls, name, descriptor)):
            demands += _between(descriptor, cls[0], member[0])
    if not is_interface(world, above[0]):
        demands += _demands_of_interfaces(world, cls)
    return _in_order(demands)


def _demands_of_interfaces(world, cls):
    demands = []
    for interface in interfaces_of(world, cls):
        for name, descriptor, flags, _ in world.file_of(interface).methods:
            if is_open(flags):
                member = (*interface, name, descriptor)
                told = first_along(world, member, cls)
                if told is None:
                    told = from_interfaces(world, cls, name, descriptor)
                if not isinstance(told, str):
                    demands += _between(descriptor, told[0], interface[0])
    return demands


def all_demands(world):
    """Return the sorted list of all demands of the classes of a world that load well."""
    demands = []
    for cls in world.classes():
        if loading_error(world, cls) is None:
            demands += class_demands(world, cls)
            for name, _, _, code in world.file_of(cls).methods:
                if isinstance(code, Code):
                    for row in code.rows:
                        demands += use_demands(world, cls, name, row)
    return _in_order(demands)
