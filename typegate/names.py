"""Names, class names, descriptors and type names."""

from typegate.errors import NoDescriptor

LONGEST_NAME = 30
LONGEST_CLASS_NAME = 60
MOST_BRACKETS = 5
MOST_PARAMETER_PLACES = 254
LETTERS = ("Z", "B", "S", "C", "I", "J")


def is_name(thing):
    """Return whether any object is a name."""
    if not isinstance(thing, str) or not 1 <= len(thing) <= LONGEST_NAME:
        return False
    return all([_is_name_sign(sign) for sign in thing])


def _is_name_sign(sign):
    return "a" <= sign <= "z" or "A" <= sign <= "Z" or "0" <= sign <= "9" or sign in ("_", "$")


def is_class_name(thing):
    """Return whether any object is a class name."""
    if not isinstance(thing, str) or len(thing) > LONGEST_CLASS_NAME:
        return False
    return all([is_name(part) for part in thing.split("/")])


def is_method_name(thing):
    """Return whether a method may be called so."""
    return is_name(thing) or thing in ("<init>", "<clinit>")


def is_field_descriptor(thing):
    """Return whether any object is the descriptor of a field."""
    return isinstance(thing, str) and _field_end(thing, 0) == len(thing)


def is_method_descriptor(thing):
    """Return whether any object is the descriptor of a method."""
    return _method_parts(thing) is not None


def is_type_name(thing):
    """Return whether any object is a type name."""
    return is_class_name(thing) or is_field_descriptor(thing) and thing.startswith("[")


def is_array(name):
    """Return whether a type name is that of arrays."""
    return name.startswith("[")


def type_name_of(descriptor):
    """Return the type name of a field's descriptor, or None for a letter."""
    if descriptor in LETTERS:
        return None
    return descriptor if is_array(descriptor) else descriptor[1:-1]


def held_by(array):
    """Return the type name of what arrays of this type name hold, or None if they hold letters."""
    return type_name_of(array[1:])


def innermost(array):
    """Return the name of the class in the type name of arrays, or None if there is none."""
    return type_name_of(array.lstrip("["))


def array_of(name):
    """Return the type name of the arrays that hold things of this type name."""
    return "[" + name if is_array(name) else "[L" + name + ";"


def package_of(name):
    """Return the package of a class name."""
    return name.rpartition("/")[0]


def places_of(descriptors):
    """Return how many places values of these descriptors take together."""
    return sum([2 if descriptor == "J" else 1 for descriptor in descriptors])


def parameters(descriptor):
    """Return the list of the descriptors of a method's parameters."""
    parts = _method_parts(descriptor)
    if parts is None:
        raise NoDescriptor()
    return parts[:-1]


def result(descriptor):
    """Return the descriptor of a method's result."""
    parts = _method_parts(descriptor)
    if parts is None:
        raise NoDescriptor()
    return parts[-1]


def _method_parts(thing):
    """Return the descriptors of the parameters, then that of the result, or None."""
    if not isinstance(thing, str) or not thing.startswith("("):
        return None
    parts = []
    at = 1
    while at < len(thing) and thing[at] != ")":
        end = _field_end(thing, at)
        if end is None:
            return None
        parts.append(thing[at:end])
        at = end
    last = thing[at + 1:]
    if places_of(parts) > MOST_PARAMETER_PLACES or last != "V" and not is_field_descriptor(last):
        return None
    parts.append(last)
    return parts


def _field_end(text, begin):
    """Return the index behind the field's descriptor that begins here, or None."""
    at = begin
    while at < len(text) and text[at] == "[":
        at += 1
    if at == len(text) or at - begin > MOST_BRACKETS:
        return None
    if text[at] in LETTERS:
        return at + 1
    end = text.find(";", at)
    if text[at] != "L" or end == -1 or not is_class_name(text[at + 1:end]):
        return None
    return end + 1
