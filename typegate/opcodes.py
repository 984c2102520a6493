"""The bytes that stand for instructions."""

# Bytes that are an instruction of their own.
WHOLE = {
    0: ("nop",), 1: ("aconst_null",),
    2: ("iconst", -1), 3: ("iconst", 0), 4: ("iconst", 1), 5: ("iconst", 2), 6: ("iconst", 3), 7: ("iconst", 4),
    8: ("iconst", 5), 9: ("lconst", 0), 10: ("lconst", 1),
    26: ("iload", 0), 27: ("iload", 1), 28: ("iload", 2), 29: ("iload", 3),
    30: ("lload", 0), 31: ("lload", 1), 32: ("lload", 2), 33: ("lload", 3),
    42: ("aload", 0), 43: ("aload", 1), 44: ("aload", 2), 45: ("aload", 3),
    46: ("iaload",), 47: ("laload",), 50: ("aaload",), 51: ("baload",), 52: ("caload",), 53: ("saload",),
    59: ("istore", 0), 60: ("istore", 1), 61: ("istore", 2), 62: ("istore", 3),
    63: ("lstore", 0), 64: ("lstore", 1), 65: ("lstore", 2), 66: ("lstore", 3),
    75: ("astore", 0), 76: ("astore", 1), 77: ("astore", 2), 78: ("astore", 3),
    79: ("iastore",), 80: ("lastore",), 83: ("aastore",), 84: ("bastore",), 85: ("castore",), 86: ("sastore",),
    87: ("pop",), 88: ("pop2",), 89: ("dup",), 90: ("dup_x1",), 91: ("dup_x2",),
    92: ("dup2",), 93: ("dup2_x1",), 94: ("dup2_x2",), 95: ("swap",),
    96: ("iadd",), 97: ("ladd",), 100: ("isub",), 101: ("lsub",), 104: ("imul",), 105: ("lmul",),
    108: ("idiv",), 109: ("ldiv",), 112: ("irem",), 113: ("lrem",), 116: ("ineg",), 117: ("lneg",),
    120: ("ishl",), 121: ("lshl",), 122: ("ishr",), 123: ("lshr",), 124: ("iushr",), 125: ("lushr",),
    126: ("iand",), 127: ("land",), 128: ("ior",), 129: ("lor",), 130: ("ixor",), 131: ("lxor",),
    133: ("i2l",), 136: ("l2i",), 145: ("i2b",), 146: ("i2c",), 147: ("i2s",), 148: ("lcmp",),
    172: ("ireturn",), 173: ("lreturn",), 176: ("areturn",), 177: ("return",),
    190: ("arraylength",), 191: ("athrow",), 194: ("monitorenter",), 195: ("monitorexit",),
}
# How many bytes the numbers behind a byte have; those with a sign are told below 0.
NUMBERS = {
    16: (-1,), 17: (-2,), 18: (1,), 19: (2,), 20: (2,),
    21: (1,), 22: (1,), 25: (1,), 54: (1,), 55: (1,), 58: (1,), 132: (1, -1),
    153: (-2,), 154: (-2,), 155: (-2,), 156: (-2,), 157: (-2,), 158: (-2,),
    159: (-2,), 160: (-2,), 161: (-2,), 162: (-2,), 163: (-2,), 164: (-2,),
    165: (-2,), 166: (-2,), 198: (-2,), 199: (-2,), 167: (-2,), 200: (-4,),
    178: (2,), 179: (2,), 180: (2,), 181: (2,), 182: (2,), 183: (2,), 184: (2,), 185: (2, 1, 1),
    187: (2,), 188: (1,), 189: (2,), 192: (2,), 193: (2,), 197: (2, 1),
}
# The same for the byte behind a WIDE.
WIDE_NUMBERS = {21: (2,), 22: (2,), 25: (2,), 54: (2,), 55: (2,), 58: (2,), 132: (2, -2)}

IINC = 132
TABLE = 170
LOOKUP = 171
INTERFACE_CALL = 185
NEW_LETTERS = 188
WIDE = 196
NEW_ARRAYS = 197
# The last byte that a machine of some age may know.
LAST = 201
LEFT_OUT_BEHIND_WIDE = (23, 24, 56, 57, 169)
LEFT_OUT_LETTERS = (6, 7)

LOCALS = {21: "iload", 22: "lload", 25: "aload", 54: "istore", 55: "lstore", 58: "astore"}
JUMPS = {
    153: "ifeq", 154: "ifne", 155: "iflt", 156: "ifge", 157: "ifgt", 158: "ifle",
    159: "if_icmpeq", 160: "if_icmpne", 161: "if_icmplt", 162: "if_icmpge", 163: "if_icmpgt", 164: "if_icmple",
    165: "if_acmpeq", 166: "if_acmpne", 198: "ifnull", 199: "ifnonnull", 167: "goto", 200: "goto",
}
FIELDS = {178: "getstatic", 179: "putstatic", 180: "getfield", 181: "putfield"}
CALLS = {182: "invokevirtual", 183: "invokespecial", 184: "invokestatic", 185: "invokeinterface"}
CLASSES = {187: "new", 189: "anewarray", 192: "checkcast", 193: "instanceof", 197: "multianewarray"}
LETTERS = {4: "Z", 5: "C", 8: "B", 9: "S", 10: "I", 11: "J"}
