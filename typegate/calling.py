"""The rows of a machine that call methods, and those that return from them."""

from typegate.arithmetic import narrowed
from typegate.base import is_base_name
from typegate.halts import Wrong
from typegate.kin import is_of
from typegate.members import method_flags
from typegate.names import LETTERS, parameters, places_of, result, type_name_of
from typegate.selecting import chosen
from typegate.taking import Taking, places_for

# Stands for the index to which a row leads that ends or begins a frame.
AWAY = -1
CLONEABLE = ("base", "Cloneable")


def call(run, frame, row):
    """Take an object and arguments, and begin the frame of the method that is called."""
    word, _, name, descriptor = row
    sorts = parameters(descriptor)
    has_object = word not in ("invokestatic", "invokestatic_i")
    taking = Taking(run, frame, places_of(sorts) + (1 if has_object else 0))
    found = run.asked(frame, row)
    reference = None
    if has_object:
        reference = _take_raw(run, frame, found, taking) if name == "<init>" else _take_object(frame, row, taking)
    for parameter in sorts:
        taking.value(parameter, found[:2])
    if has_object and reference is None:
        run.throw("NullPointerException")
    target = found
    if has_object:
        target = _told_method(run, frame, row, found, reference)
    else:
        run.see_begun(found[:2])
    if "native" in method_flags(run.memory.world, target[:2], name, descriptor):
        return _run_native(run, frame, taking, target)
    run.enter(target, taking.told_places(), reference)
    taking.drop()
    return AWAY


def _take_raw(run, frame, found, taking):
    """Return the raw object on which an <init> is called, or null."""
    reference = taking.any_reference()
    if reference is None:
        return None
    thing = run.memory.thing(reference)
    if not thing.raw:
        raise Wrong("raw")
    # Only in an <init> the object of a frame is raw.
    if reference == frame.own:
        taking.want_kind(is_of(run.memory.world, thing.actual, found[:2]))
    else:
        taking.want_kind(thing.actual == found[:2])
    return reference


def _take_object(frame, row, taking):
    """Return the object on which another method is called, or null."""
    reference = taking.ready_reference()
    taking.want_kind(reference is None or taking.fits(reference, row[1], frame.cls))
    return reference


def _told_method(run, frame, row, found, reference):
    """Return the method that is called on an object."""
    target = chosen(run.memory.world, frame.cls, row, found, run.memory.thing(reference).actual)
    if isinstance(target, str):
        run.throw(target)
    return target


def _run_native(run, frame, taking, target):
    """Run a method without a code, which is there for base classes alone."""
    if not is_base_name(target[1]):
        run.throw("UnsatisfiedLinkError")
    memory = run.memory
    reference = taking.first()
    thing = memory.thing(reference)
    given = []
    if target[2] == "<init>":
        thing.raw = False
    elif target[2] == "hashCode":
        given = [("int", reference[1])]
    elif target[2] == "equals":
        given = [("int", 1 if taking.told_places()[1] == reference else 0)]
    else:
        if not is_of(memory.world, thing.actual, CLONEABLE):
            run.throw("CloneNotSupportedException")
        given = [memory.made_copy(reference)]
    taking.drop()
    frame.stack.extend(given)


def return_value(run, frame, row):
    """Take what a method returns, and end its frame."""
    word = row[0]
    told = result(frame.descriptor)
    taking = Taking(run, frame, 2 if word == "lreturn" else 1)
    if word == "areturn":
        value = taking.ready_reference()
        is_right = told != "V" and told not in LETTERS
        if is_right:
            taking.want_kind(value is None or taking.fits(value, type_name_of(told), frame.cls))
    elif word == "lreturn":
        value = taking.long()
        is_right = told == "J"
    else:
        is_right = told in LETTERS and told != "J"
        value = narrowed(told, taking.number())
    _want_return(is_right)
    run.leave(frame, places_for(told, value))
    return AWAY


def return_nothing(run, frame, row):
    """End a frame."""
    is_raw = frame.name == "<init>" and run.memory.thing(frame.own).raw
    _want_return(result(frame.descriptor) == "V" and not is_raw)
    run.leave(frame, [])
    return AWAY


def _want_return(is_right):
    if not is_right:
        raise Wrong("return")


CALLING = {
    "invokevirtual": call, "invokeinterface": call, "invokestatic": call, "invokestatic_i": call,
    "invokespecial": call, "invokespecial_i": call,
    "ireturn": return_value, "lreturn": return_value, "areturn": return_value, "return": return_nothing,
}
