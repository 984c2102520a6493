"""The forms of classes: what a ClassFile must keep to before it can be loaded."""

from typegate.classes import ClassFile, Code
from typegate.errors import NoFile
from typegate.instructions import BOUNDS
from typegate.kinds import is_integer, is_within
from typegate.names import parameters, places_of, result

ACCESS = ("public", "private", "protected")
OF_CLASSES = ("public", "final", "abstract", "interface")
OF_FIELDS = ("public", "private", "protected", "static", "final")
OF_INTERFACE_FIELDS = ("public", "static", "final")
NOT_WITH_ABSTRACT = ("private", "static", "final", "synchronized", "native")
NOT_IN_INTERFACES = ("protected", "final", "synchronized", "native")
OF_INTS = ("Z", "B", "S", "C", "I")


def fault(file):
    """Return the first rule that a class breaks, as a tuple (word, part, number), or None."""
    if not isinstance(file, ClassFile):
        raise NoFile()
    found = _fault_of_class(file)
    if found is None:
        found = _fault_of_fields(file)
    if found is None:
        found = _fault_of_methods(file)
    return found


def _fault_of_class(file):
    if not _has_class_flags(file.flags):
        return ("flags", "class", -1)
    if not _has_right_parent(file):
        return ("parent", "class", -1)
    twice = _stand_ahead(file.interfaces)
    if True in twice:
        return ("interfaces", "class", twice.index(True))
    return None


def _has_class_flags(flags):
    if not all([word in OF_CLASSES for word in flags]):
        return False
    if "abstract" in flags:
        return "final" not in flags
    return "interface" not in flags


def _has_right_parent(file):
    if (file.parent is None) != (file.name == "Object"):
        return False
    return "interface" not in file.flags or file.parent == "Object"


def _stand_ahead(things):
    """Return a list that tells of each thing whether it also stands ahead of its place."""
    seen = set()
    found = []
    for thing in things:
        found.append(thing in seen)
        seen.add(thing)
    return found


def _fault_of_fields(file):
    twice = _stand_ahead([(name, descriptor) for name, descriptor, _, _ in file.fields])
    for number, field in enumerate(file.fields):
        if not _has_field_flags(field, "interface" in file.flags):
            return ("flags", "field", number)
        if twice[number]:
            return ("twice", "field", number)
        if not _has_right_constant(field):
            return ("constant", "field", number)
    return None


def _has_field_flags(field, in_interface):
    flags = field[2]
    if in_interface:
        return flags == OF_INTERFACE_FIELDS
    return all([word in OF_FIELDS for word in flags]) and _has_one_access(flags)


def _has_one_access(flags):
    """Return whether there is at most one of the words that tell who may use a member."""
    return len([word for word in flags if word in ACCESS]) <= 1


def _has_right_constant(field):
    _, descriptor, flags, constant = field
    if constant is None:
        return True
    if "static" not in flags:
        return False
    if descriptor in OF_INTS:
        low, high = BOUNDS["int"]
        return is_within(constant, low, high)
    if descriptor == "J":
        return is_integer(constant)
    return descriptor == "LString;" and isinstance(constant, str)


def _fault_of_methods(file):
    in_interface = "interface" in file.flags
    twice = _stand_ahead([(name, descriptor) for name, descriptor, _, _ in file.methods])
    for number, method in enumerate(file.methods):
        word = _word_for_method(method, in_interface, twice[number])
        if word is not None:
            return (word, "method", number)
    return None


def _word_for_method(method, in_interface, stands_ahead):
    """Return the word of the first rule that a method breaks, or None."""
    if not _has_method_flags(method, in_interface):
        return "flags"
    if in_interface and method[0] == "<init>":
        return "init"
    if not _has_right_result(method):
        return "result"
    if stands_ahead:
        return "twice"
    if not _has_code_as_told(method):
        return "code"
    if not _has_room(method):
        return "places"
    return None


def _has_method_flags(method, in_interface):
    name, _, flags, _ = method
    if name == "<clinit>":
        return flags == ("static",)
    if "interface" in flags or not _has_one_access(flags):
        return False
    if name == "<init>" and not all([word in ACCESS for word in flags]):
        return False
    if "abstract" in flags and any([word in NOT_WITH_ABSTRACT for word in flags]):
        return False
    return not in_interface or _may_stand_in_interface(flags)


def _may_stand_in_interface(flags):
    if any([word in NOT_IN_INTERFACES for word in flags]):
        return False
    return "public" in flags or "private" in flags


def _has_right_result(method):
    name, descriptor, _, _ = method
    if name == "<clinit>":
        return descriptor == "()V"
    return name != "<init>" or result(descriptor) == "V"


def _has_code_as_told(method):
    """Return whether there is a code just where the flags ask for one; it need not be one that can be cut."""
    _, _, flags, code = method
    return (code is None) == ("abstract" in flags or "native" in flags)


def _has_room(method):
    """Return whether the locals of a Code have room for what the method is given."""
    _, descriptor, flags, code = method
    if not isinstance(code, Code):
        return True
    own = 0 if "static" in flags else 1
    return places_of(parameters(descriptor)) + own <= code.places
