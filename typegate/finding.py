"""Frames for codes that tell none: where they are needed, and what they are."""

from typegate.classes import Code
from typegate.entries import gathered
from typegate.errors import NoCode, NoForm, NoFrames, NotFound, NotRight
from typegate.instructions import targets
from typegate.steps import LAST_WORDS, first_frame, go_by
from typegate.tasks import Task, method_with_code
from typegate.types import least


def needed(code):
    """Return the ascending list of the indexes at which a code must tell frames."""
    if not isinstance(code, Code) or not _is_whole(code):
        raise NoCode()
    found = {handler[2]: True for handler in code.handlers}
    for index, row in enumerate(code.rows):
        for target in targets(row):
            found[target] = True
        if row[0] in LAST_WORDS and index + 1 < len(code.rows):
            found[index + 1] = True
    return sorted(list(found))


def _is_whole(code):
    """Return whether a Code is still one that can be made, whatever it has been assigned since it was."""
    try:
        Code(code.stack, code.places, code.rows, code.handlers, code.frames)
    except NoForm:
        return False
    return True


def frames_found(world, cls, method, descriptor):
    """Return the tuple of the frames that are found for a method, as its code could tell them."""
    task = Task(world, cls, method_with_code(world, cls, method, descriptor), True)
    kept = Kept(task)
    try:
        _find_all(task, kept)
    except NotRight as wrong:
        raise NoFrames(wrong.index, wrong.word)
    for index in range(len(task.code.rows)):
        if index not in kept.frames:
            raise NoFrames(index, "unreached")
    return tuple([(index, gathered(kept.frames[index][0]), kept.frames[index][1]) for index in kept.needed])


def _find_all(task, kept):
    while len(kept.changed) > 0:
        index = min(list(kept.changed))
        del kept.changed[index]
        try:
            behind = go_by(task, index, kept.frames[index], kept)
            if behind is not None:
                kept.come(index, index + 1, behind, "frame")
        except NotFound as missing:
            raise NotRight(index, missing.word)


class Kept:
    """The frames that have been found so far, and those that are to be looked at."""

    def __init__(self, task):
        self._task = task
        self.needed = needed(task.code)
        self.frames = {0: first_frame(task)}
        self.changed = {0: True}

    def come(self, index, target, frame, _):
        """Put a frame that leads from an index to a target together with the one that is kept there."""
        found = frame
        if target in self.needed:
            if target in self.frames:
                found = self._together(index, frame, self.frames[target])
            if found[2] and "this" not in found[0]:
                raise NotRight(index, "frame")
        if target not in self.frames or found != self.frames[target]:
            self.frames[target] = found
            self.changed[target] = True

    def _together(self, index, frame, other):
        """Return the least frame for both."""
        if len(frame[1]) != len(other[1]) or frame[2] != other[2]:
            raise NotRight(index, "frame")
        places = self._least_entries(frame[0], other[0])
        stack = self._least_entries(frame[1], other[1])
        for one, two in zip(frame[1], other[1]):
            if (one == "long") != (two == "long"):
                raise NotRight(index, "frame")
        return (places, stack, frame[2])

    def _least_entries(self, entries, others):
        world = self._task.world
        loader = self._task.cls[0]
        return tuple([one if one == two else least(world, loader, one, two) for one, two in zip(entries, others)])
