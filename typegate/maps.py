"""The frames that the map of a code tells in a file."""

from typegate.reader import Ended, NotCut, want

MOST_ENTRIES = 255
PLAIN_ENTRIES = {0: "top", 1: "int", 4: "long", 5: "null", 6: "this"}
LEFT_OUT_ENTRIES = (2, 3)
OBJECT = 7
NEW = 8


class MapReader:
    """What is needed to read a map: its bytes, the place of its attribute, the pool, and where instructions begin."""

    def __init__(self, reader, place, pool, starts):
        self._reader = reader
        self._place = place
        self._pool = pool
        self._starts = starts

    def told_frames(self, entries):
        """Return the list of the frames that are told, for a method that begins with these entries."""
        try:
            many = self._reader.number(2)
        except Ended:
            raise NotCut("map", 0)
        frames = []
        at = -1
        for number in range(many):
            try:
                found = self._told_frame(at, entries)
            except Ended:
                found = None
            if found is None:
                raise NotCut("map", number)
            at, entries, stack = found
            frames.append((self._starts[at], tuple(entries), tuple(stack)))
        if not self._reader.is_done():
            raise NotCut("map", many)
        return frames

    def _told_frame(self, ahead, entries):
        """Return where the next frame stands, its locals and its stack, or None if it is wrong."""
        tag = self._reader.number(1)
        if 128 <= tag < 247:
            return None
        if tag < 128:
            delta = tag & 63
        else:
            delta = self._reader.number(2)
        places = self._told_places(tag, entries)
        stack = self._told_stack(tag) if places is not None else None
        at = ahead + 1 + delta
        if stack is None or at not in self._starts:
            return None
        return (at, places, stack)

    def _told_places(self, tag, entries):
        """Return the list of the locals of a frame with this tag, or None."""
        if tag < 248:
            return entries
        if tag < 251:
            many = len(entries) - (251 - tag)
            return entries[:many] if many >= 0 else None
        if tag == 255:
            return self._told_entries([], self._reader.number(2))
        return self._told_entries(entries, tag - 251)

    def _told_stack(self, tag):
        """Return the list of the stack of a frame with this tag, or None."""
        if tag == 255:
            return self._told_entries([], self._reader.number(2))
        return self._told_entries([], 1 if 64 <= tag < 128 or tag == 247 else 0)

    def _told_entries(self, ahead, many):
        """Return the list of some entries and so many more that are told next, or None."""
        if len(ahead) + many > MOST_ENTRIES:
            return None
        found = list(ahead)
        for _ in range(many):
            entry = self._told_entry()
            if entry is None:
                return None
            found.append(entry)
        return found

    def _told_entry(self):
        """Return the entry that is told next, or None."""
        tag = self._reader.number(1)
        want(tag not in LEFT_OUT_ENTRIES, self._place, "out")
        if tag == OBJECT:
            link = self._reader.number(2)
            return ("object", self._pool.text(link)) if self._pool.sort_of(link) == "class" else None
        if tag == NEW:
            at = self._reader.number(2)
            return ("new", self._starts[at]) if at in self._starts else None
        return PLAIN_ENTRIES.get(tag)
