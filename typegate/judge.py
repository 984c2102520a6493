"""The judge: whether a method, and each method of a class, is right."""

from typegate.classes import Code, Uncut
from typegate.entries import places_in, spread
from typegate.errors import NotFound, NotRight
from typegate.loading import look_at_class
from typegate.steps import first_frame, go_by
from typegate.tasks import Task, method_with_code


def judged(world, cls):
    """Return what is wrong with the first method of a class that is not right, or None."""
    look_at_class(world, cls)
    for method in world.file_of(cls).methods:
        name, descriptor, _, code = method
        found = None
        if isinstance(code, Uncut):
            found = (-1, "ClassFormatError" if code.why == "map" else "CodeError")
        elif code is not None:
            found = _fault_in(Task(world, cls, method, False))
        if found is not None:
            return (name, descriptor, *found)
    return None


def fault_of(world, cls, method, descriptor, frames=None, *, loose=False):
    """Return the index and the word of what is wrong first with a method, or None."""
    name, _, flags, code = method_with_code(world, cls, method, descriptor)
    if frames is not None:
        code = Code(code.stack, code.places, code.rows, code.handlers, frames)
    return _fault_in(Task(world, cls, (name, descriptor, flags, code), loose))


def frames_of(world, cls, method, descriptor):
    """Return the list of the frames ahead of all instructions of a method that is right."""
    return _frames_along(Task(world, cls, method_with_code(world, cls, method, descriptor), False))


def _fault_in(task):
    try:
        _frames_along(task)
    except NotRight as wrong:
        return (wrong.index, wrong.word)
    return None


def _frames_along(task):
    """Return the list of the frames ahead of all instructions; raise NotRight for what is wrong first."""
    goals = Told(task)
    frames = []
    frame = first_frame(task)
    for index in range(len(task.code.rows)):
        try:
            frame = goals.counted(index, frame)
            frames.append(frame)
            frame = go_by(task, index, frame, goals)
        except NotFound as missing:
            raise NotRight(index, missing.word)
    return frames


class Told:
    """The frames that are told in a code."""

    def __init__(self, task):
        self._task = task
        self._frames = {}
        for index, entries, stack in task.code.frames:
            if not _can_be_told(task, entries, stack):
                raise NotRight(index, "map")
            places = tuple(spread(entries, task.code.places))
            self._frames[index] = (places, stack, "this" in entries)

    def counted(self, index, frame):
        """Return the frame that counts at an index to which control comes with a frame, or with None."""
        if index in self._frames:
            if frame is not None:
                self.come(index, index, frame, "frame")
            return self._frames[index]
        if frame is None:
            raise NotRight(index, "missing")
        return frame

    def come(self, index, target, frame, word):
        """Raise NotRight with this word, unless a frame is told at the target and the given one fits it."""
        if target not in self._frames or not self._fits(frame, self._frames[target]):
            raise NotRight(index, word)

    def _fits(self, frame, told):
        places, stack, flag = frame
        told_places, told_stack, told_flag = told
        if len(stack) != len(told_stack) or flag and not told_flag:
            return False
        if not self._all_stand(places, told_places) or not self._all_stand(stack, told_stack):
            return False
        return _has_longs(stack, told_stack)

    def _all_stand(self, entries, told):
        # All of them are looked at, as a class that is not found goes ahead of an entry that does not fit.
        return all([self._task.can_stand(one, other) for one, other in zip(entries, told)])


def _has_longs(stack, told):
    """Return whether each long on a stack stands where a long is told."""
    return all([one != "long" or other == "long" for one, other in zip(stack, told)])


def _can_be_told(task, entries, stack):
    """Return whether a frame of the code has room, and entries that the method can have."""
    if places_in(entries) > task.code.places or places_in(stack) > task.code.stack:
        return False
    for entry in (*entries, *stack):
        # Object has an <init>, too, but no code for it.
        if entry == "this" and task.method != "<init>":
            return False
        if isinstance(entry, tuple) and entry[0] == "new" and task.code.rows[entry[1]][0] != "new":
            return False
    return True
