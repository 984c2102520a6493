"""Run-time packages, and which classes can be come to from which."""

from typegate.names import package_of


def are_neighbours(one, other):
    """Return whether two classes have one run-time package."""
    return one[0] == other[0] and package_of(one[1]) == package_of(other[1])


def is_accessible(cls, flags, user):
    """Return whether a class with these flags is accessible to another one."""
    return "public" in flags or are_neighbours(cls, user)
