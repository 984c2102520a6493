"""Quarrels: demands that lead from one loader to another one with an unlike class of the same name."""

from typegate.demands import all_demands
from typegate.kinds import is_tuple_of
from typegate.loading import denoted, loading_error


def quarrel(world):
    """Return the quarrel of a world with the fewest loaders, the least one of several, or None."""
    best = None
    demands = all_demands(world)
    for name in sorted(set([demand[0] for demand in demands])):
        near = _neighbours(demands, name)
        for loader in sorted(list(near)):
            found = _shortest(world, name, near, loader)
            if found is not None and (best is None or len(found) < len(best[1])):
                best = (name, found)
    return best


def can_quarrel(world):
    """Return whether a world can quarrel."""
    return quarrel(world) is not None


def is_quarrel(world, thing):
    """Return whether any object is a quarrel of a world."""
    if not is_tuple_of(thing, 2) or not isinstance(thing[1], tuple) or len(thing[1]) < 2:
        return False
    name, loaders = thing
    if not all([isinstance(loader, str) for loader in loaders]):
        return False
    if len(set(loaders)) < len(loaders):
        return False
    demands = all_demands(world)
    for one, other in zip(loaders, loaders[1:]):
        if (name, min(one, other), max(one, other)) not in demands:
            return False
    return _are_unlike(world, name, loaders[0], loaders[-1])


def _neighbours(demands, name):
    """Return a dict from loaders to the ascending list of those with which a demand of a name joins them."""
    near = {}
    for demand, one, other in demands:
        if demand == name:
            near.setdefault(one, []).append(other)
            near.setdefault(other, []).append(one)
    return {loader: sorted(near[loader]) for loader in near}


def _are_unlike(world, name, one, other):
    """Return whether a name denotes unlike classes that load well for two loaders."""
    first = _answer(world, name, one)
    second = _answer(world, name, other)
    return first is not None and second is not None and first != second


def _answer(world, name, loader):
    """Return the class that a name denotes for a loader, if it loads well, or None."""
    found = denoted(world, loader, name)
    return None if found is None or loading_error(world, found) is not None else found


def _shortest(world, name, near, loader):
    """Return the shortest and least tuple of loaders from one to another with an unlike class, or None."""
    seen = {loader: True}
    ways = [(loader,)]
    while len(ways) > 0:
        longer = []
        for way in ways:
            for other in near[way[-1]]:
                if other not in seen:
                    seen[other] = True
                    if _are_unlike(world, name, loader, other):
                        return (*way, other)
                    longer.append((*way, other))
        ways = longer
    return None
