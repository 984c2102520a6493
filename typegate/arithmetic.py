"""Ints and longs: how they are kept within their bits, and what is computed with them."""

BITS = {"i": 32, "l": 64}
ONE_OPERAND = ("ineg", "lneg")
SHIFTS = ("ishl", "ishr", "iushr", "lshl", "lshr", "lushr")
DIVISIONS = ("idiv", "irem", "ldiv", "lrem")


def wrapped(number, bits):
    """Return the lowest bits of a number as a number with a sign."""
    half = 1 << (bits - 1)
    return (number + half & 2 * half - 1) - half


def narrowed(descriptor, number):
    """Return the part of an int that a descriptor keeps."""
    if descriptor == "Z":
        return number & 1
    if descriptor == "B":
        return wrapped(number, 8)
    if descriptor == "S":
        return wrapped(number, 16)
    if descriptor == "C":
        return number & 65535
    return number


def computed(word, one, other):
    """Return what an instruction makes of two numbers, the second one not 0 where it divides."""
    bits = BITS[word[0]]
    if word in SHIFTS:
        return _shifted(word, one, other & bits - 1, bits)
    operation = OPERATIONS[word[1:]]
    return wrapped(operation(one, other), bits)


def negated(word, number):
    """Return a number with the other sign."""
    return wrapped(-number, BITS[word[0]])


def _shifted(word, number, count, bits):
    if word.endswith("ushr"):
        return wrapped((number & (1 << bits) - 1) >> count, bits)
    return number >> count if word.endswith("shr") else wrapped(number << count, bits)


def _sum(one, other):
    return one + other


def _difference(one, other):
    return one - other


def _product(one, other):
    return one * other


def _quotient(one, other):
    size = abs(one) // abs(other)
    return size if (one < 0) == (other < 0) else -size


def _rest(one, other):
    return one - other * _quotient(one, other)


def _and(one, other):
    return one & other


def _or(one, other):
    return one | other


def _xor(one, other):
    return one ^ other


OPERATIONS = {
    "add": _sum, "sub": _difference, "mul": _product, "div": _quotient, "rem": _rest,
    "and": _and, "or": _or, "xor": _xor,
}
