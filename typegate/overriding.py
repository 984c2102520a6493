"""Which methods along a line of classes are overridden."""

from typegate.packages import are_neighbours


def overridden(line, methods, name, descriptor):
    """Return the places in a line of those methods that the one of its first class overrides.

    Beside the line stands a list with, for each class, a dict from names and descriptors to flags.
    """
    key = (name, descriptor)
    if name == "<init>" or not _can_override(methods[0], key):
        return []
    # Whatever is overridden overrides, in its turn, for the first one, too.
    above = [0]
    for k in range(1, len(line)):
        if _can_override(methods[k], key):
            flags = methods[k][key]
            if any([_is_seen(line[k], flags, line[at]) for at in above]):
                above.append(k)
    return above[1:]


def _can_override(methods, key):
    return key in methods and "static" not in methods[key] and "private" not in methods[key]


def _is_seen(cls, flags, other):
    """Return whether a method of a class that is not private is one for another class to override."""
    return "public" in flags or "protected" in flags or are_neighbours(cls, other)
