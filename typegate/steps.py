"""How the judge goes by one instruction: its handlers, its rule, and where it leads."""

from typegate.entries import entries_at_start, spread
from typegate.errors import NotRight
from typegate.instructions import targets
from typegate.names import parameters
from typegate.rules import THROWABLE, apply_rule
from typegate.states import State

# Behind these control does not go on to the next instruction.
LAST_WORDS = ("goto", "switch", "athrow", "ireturn", "lreturn", "areturn", "return")


def first_frame(task):
    """Return the frame with which a method begins, as a tuple (locals, stack, flag)."""
    entries = entries_at_start(task.cls[1], task.method, task.descriptor, task.flags)
    return (tuple(spread(entries, task.code.places)), (), "this" in entries)


def go_by(task, index, frame, goals):
    """Return the frame behind an instruction, or None if control does not go on to the next one.

    Each frame that it hands to handlers and jumps goes to goals.come(index, target, frame, word).
    """
    row = task.code.rows[index]
    _go_to_handlers(task, index, frame, goals)
    state = State(index, frame)
    room = task.code.stack
    is_full = state.places_taken() > room
    apply_rule(task, state, row)
    # A handler may have been come to with more than the stack has room for.
    state.want(not is_full and state.places_taken() <= room, "full")
    behind = state.as_frame()
    for target in targets(row):
        goals.come(index, target, behind, "goal")
    if row[0] in LAST_WORDS:
        return None
    state.want(index + 1 < len(task.code.rows), "end")
    return behind


def _go_to_handlers(task, index, frame, goals):
    places = _places_for_handlers(task.code.rows[index], frame)
    for begin, end, target, kind in task.code.handlers:
        if begin <= index < end:
            caught = THROWABLE if kind is None else ("object", kind)
            if not task.can_stand(caught, THROWABLE):
                raise NotRight(index, "catch")
            goals.come(index, target, (places, (caught,), frame[2]), "handler")


def _places_for_handlers(row, frame):
    """Return the locals that handlers see: without the object, not ready, on which an instruction calls <init>."""
    places, stack, _ = frame
    if row[0] != "invokespecial" or row[2] != "<init>":
        return places
    below = len(parameters(row[3])) + 1
    if len(stack) < below:
        return places
    entry = stack[len(stack) - below]
    if entry != "this" and (not isinstance(entry, tuple) or entry[0] != "new"):
        return places
    return tuple(["top" if place == entry else place for place in places])
