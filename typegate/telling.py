"""The bytes by which a file tells the frames of a code."""

from typegate.maps import NEW, OBJECT, PLAIN_ENTRIES
from typegate.reader import number_bytes

GREATEST_SHORT_DELTA = 63


def map_bytes(frames, entries, starts, pool):
    """Return the list of the bytes of a map, for a method that begins with these entries."""
    data = number_bytes(len(frames), 2)
    ahead = tuple(entries)
    at = -1
    for index, places, stack in frames:
        delta = starts[index] - at - 1
        data += _frame_bytes(delta, ahead, places, stack, starts, pool)
        at = starts[index]
        ahead = places
    return data


def _frame_bytes(delta, ahead, places, stack, starts, pool):
    """Return the bytes of a frame by the first form that can tell it."""
    far = number_bytes(delta, 2)
    if places == ahead and len(stack) <= 1:
        told = _entries_bytes(stack, starts, pool)
        if delta <= GREATEST_SHORT_DELTA:
            return [64 * len(stack) + delta] + told
        return [247 if len(stack) == 1 else 251] + far + told
    more = len(places) - len(ahead)
    if len(stack) == 0 and -3 <= more < 0 and places == ahead[:more]:
        return [251 + more] + far
    if len(stack) == 0 and 0 < more <= 3 and places[:-more] == ahead:
        return [251 + more] + far + _entries_bytes(places[-more:], starts, pool)
    data = [255] + far + number_bytes(len(places), 2) + _entries_bytes(places, starts, pool)
    return data + number_bytes(len(stack), 2) + _entries_bytes(stack, starts, pool)


def _entries_bytes(entries, starts, pool):
    data = []
    for entry in entries:
        data += _entry_bytes(entry, starts, pool)
    return data


def _entry_bytes(entry, starts, pool):
    if not isinstance(entry, tuple):
        return [number for number in PLAIN_ENTRIES if PLAIN_ENTRIES[number] == entry]
    word, told = entry
    if word == "object":
        return [OBJECT] + pool.link("class", told)
    return [NEW] + number_bytes(starts[told], 2)
