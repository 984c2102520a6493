"""The instructions: their words, and the arguments that each one has."""

from typegate.kinds import is_integer, is_row, is_tuple_of, is_within
from typegate.names import LETTERS, MOST_BRACKETS, is_class_name, is_field_descriptor
from typegate.names import is_method_descriptor, is_name, is_type_name, result
from typegate.texts import is_text

LONGEST_STRING = 200

# The sorts of the arguments behind each word.
ARGUMENTS = {
    "aconst_null": (), "iconst": ("int",), "lconst": ("long",), "string": ("string",), "class": ("any class",),
    "iload": ("local",), "lload": ("local",), "aload": ("local",),
    "istore": ("local",), "lstore": ("local",), "astore": ("local",), "iinc": ("local", "short"),
    "iadd": (), "isub": (), "imul": (), "idiv": (), "irem": (), "ineg": (),
    "iand": (), "ior": (), "ixor": (), "ishl": (), "ishr": (), "iushr": (),
    "ladd": (), "lsub": (), "lmul": (), "ldiv": (), "lrem": (), "lneg": (),
    "land": (), "lor": (), "lxor": (), "lshl": (), "lshr": (), "lushr": (),
    "i2l": (), "l2i": (), "i2b": (), "i2c": (), "i2s": (), "lcmp": (),
    "ifeq": ("jump",), "ifne": ("jump",), "iflt": ("jump",),
    "ifge": ("jump",), "ifgt": ("jump",), "ifle": ("jump",),
    "if_icmpeq": ("jump",), "if_icmpne": ("jump",), "if_icmplt": ("jump",),
    "if_icmpge": ("jump",), "if_icmpgt": ("jump",), "if_icmple": ("jump",),
    "if_acmpeq": ("jump",), "if_acmpne": ("jump",), "ifnull": ("jump",), "ifnonnull": ("jump",), "goto": ("jump",),
    "switch": ("pairs", "jump"),
    "getstatic": ("class", "name", "field"), "putstatic": ("class", "name", "field"),
    "getfield": ("class", "name", "field"), "putfield": ("class", "name", "field"),
    "invokevirtual": ("any class", "name", "method"), "invokespecial": ("class", "name or init", "method"),
    "invokestatic": ("class", "name", "method"), "invokeinterface": ("class", "name", "method"),
    "invokespecial_i": ("class", "name", "method"), "invokestatic_i": ("class", "name", "method"),
    "new": ("class",), "newarray": ("letter",), "anewarray": ("item",), "multianewarray": ("any class", "count"),
    "arraylength": (), "iaload": (), "laload": (), "aaload": (), "baload": (), "caload": (), "saload": (),
    "iastore": (), "lastore": (), "aastore": (), "bastore": (), "castore": (), "sastore": (),
    "checkcast": ("any class",), "instanceof": ("any class",), "athrow": (), "monitorenter": (), "monitorexit": (),
    "nop": (), "pop": (), "pop2": (), "dup": (), "dup_x1": (), "dup_x2": (),
    "dup2": (), "dup2_x1": (), "dup2_x2": (), "swap": (),
    "ireturn": (), "lreturn": (), "areturn": (), "return": (),
}

# The least and the greatest number of each sort of numbers.
BOUNDS = {
    "int": (-2147483648, 2147483647),
    "long": (-9223372036854775808, 9223372036854775807),
    "short": (-32768, 32767),
    "local": (0, 255),
    "count": (1, 5),
}


def is_instruction(thing):
    """Return whether any object is a word of the table with arguments of its sorts."""
    if not isinstance(thing, tuple) or len(thing) == 0 or not isinstance(thing[0], str):
        return False
    if thing[0] not in ARGUMENTS:
        return False
    sorts = ARGUMENTS[thing[0]]
    if len(thing) != 1 + len(sorts):
        return False
    right = [_has_sort(argument, sort) for argument, sort in zip(thing[1:], sorts)]
    return all(right) and _agrees(thing)


def _has_sort(thing, sort):
    if sort in BOUNDS:
        low, high = BOUNDS[sort]
        return is_within(thing, low, high)
    if sort == "jump":
        return is_integer(thing)
    if sort == "pairs":
        return is_row(thing) and all([_is_pair(pair) for pair in thing])
    if sort == "string":
        return is_string(thing)
    return _is_told(thing, sort)


def _is_told(thing, sort):
    """Return whether a thing is of one of the sorts that are names or descriptors."""
    if sort == "class":
        return is_class_name(thing)
    if sort == "any class":
        return is_type_name(thing)
    if sort == "item":
        # The array of it has one "[" more.
        return is_type_name(thing) and thing.count("[") < MOST_BRACKETS
    if sort == "letter":
        return thing in LETTERS
    if sort == "field":
        return is_field_descriptor(thing)
    if sort == "method":
        return is_method_descriptor(thing)
    return is_name(thing) or sort == "name or init" and thing == "<init>"


def _is_pair(thing):
    return is_tuple_of(thing, 2) and _has_sort(thing[0], "int") and is_integer(thing[1])


def is_string(thing):
    """Return whether any object is a text that a constant can tell."""
    return isinstance(thing, str) and len(thing) <= LONGEST_STRING and is_text(thing)


def _agrees(row):
    """Return whether the arguments, each right alone, go together."""
    if row[0] == "multianewarray":
        return row[2] <= row[1].count("[")
    if row[0] == "invokespecial" and row[2] == "<init>":
        return result(row[3]) == "V"
    return True


def ascends(row):
    """Return whether the integers of an instruction, if it is a switch, ascend."""
    if row[0] != "switch":
        return True
    pairs = row[1]
    return all([pairs[k][0] < pairs[k + 1][0] for k in range(len(pairs) - 1)])


def has_right_pairs(row):
    """Return whether the integers of a switch ascend, and no pair leads where all others lead."""
    return ascends(row) and (row[0] != "switch" or all([pair[1] != row[2] for pair in row[1]]))


def targets(row):
    """Return the list of the indexes to which an instruction jumps, in order."""
    if row[0] == "switch":
        return [pair[1] for pair in row[1]] + [row[2]]
    if ARGUMENTS[row[0]] == ("jump",):
        return [row[1]]
    return []


def kept(row):
    """Return the instruction without a list in it."""
    if row[0] == "switch":
        return ("switch", tuple(row[1]), row[2])
    return row
