"""The machine's rows for constants, locals, numbers, jumps and the order of the stack: [10.2], [10.7], [10.9]."""

import random
import unittest

from machining import HIGH, HIGHEST, LOW, LOWEST, MachineCase, new
from typegate.machine import Machine

I, J, N = ("iconst", 5), ("lconst", 6), ("aconst_null",)


def ints(number):
    return (number + 2 ** 31) % 2 ** 32 - 2 ** 31


def longs(number):
    return (number + 2 ** 63) % 2 ** 64 - 2 ** 63


def cut(one, other):
    size = abs(one) // abs(other)
    return size if (one < 0) == (other < 0) else -size


OPERATIONS = {
    "add": lambda a, b: a + b, "sub": lambda a, b: a - b, "mul": lambda a, b: a * b, "div": cut,
    "rem": lambda a, b: a - b * cut(a, b), "and": lambda a, b: a & b, "or": lambda a, b: a | b, "xor": lambda a, b: a ^ b,
}


class Constants(MachineCase):
    def test_numbers(self):
        for number in (0, 1, -1, LOW, HIGH):
            self.gives(number, [("iconst", number)])
        for number in (0, 1, -1, LOWEST, HIGHEST):
            self.gives(number, [("lconst", number)], result="J")
        self.gives(None, [N], result="LA;")

    def test_full(self):
        for row, places in ((I, 1), (N, 1), (J, 2)):
            self.wrong("full", [row] * 3, stack=3 * places - 1)
            self.ends([row] * 3, stack=3 * places)


class Numbers(MachineCase):
    VALUES = [0, 1, -1, 2, -7, 31, 33, HIGH, LOW, 65535, -65536]
    WIDE = VALUES + [2 ** 32 + 5, 2 ** 33 + 2 ** 31, 2 ** 40, -2 ** 40 + 3, HIGHEST, LOWEST, 63, 65]

    def test_ints(self):
        for word, operation in OPERATIONS.items():
            for one in self.VALUES:
                for other in self.VALUES:
                    rows = [("iconst", one), ("iconst", other), ("i" + word,)]
                    if other == 0 and word in ("div", "rem"):
                        self.throws("ArithmeticException", rows)
                    else:
                        self.gives(ints(operation(one, other)), rows)

    def test_longs(self):
        for word, operation in OPERATIONS.items():
            for one in self.WIDE:
                for other in self.WIDE:
                    rows = [("lconst", one), ("lconst", other), ("l" + word,)]
                    if other == 0 and word in ("div", "rem"):
                        self.throws("ArithmeticException", rows)
                    else:
                        self.gives(longs(operation(one, other)), rows, result="J")

    def test_rounding(self):
        for one, other, quotient, rest in ((7, 2, 3, 1), (-7, 2, -3, -1), (7, -2, -3, 1), (-7, -2, 3, -1), (LOW, -1, LOW, 0)):
            self.gives(quotient, [("iconst", one), ("iconst", other), ("idiv",)])
            self.gives(rest, [("iconst", one), ("iconst", other), ("irem",)])

    def test_negation(self):
        for number in self.VALUES:
            self.gives(ints(-number), [("iconst", number), ("ineg",)])
        for number in self.WIDE:
            self.gives(longs(-number), [("lconst", number), ("lneg",)], result="J")

    def test_shifts(self):
        for count in (0, 1, 5, 31, 32, 33, -1, LOW):
            for number in self.VALUES:
                low = count & 31
                for word, told in (("ishl", number << low), ("ishr", number >> low), ("iushr", number % 2 ** 32 >> low)):
                    self.gives(ints(told), [("iconst", number), ("iconst", count), (word,)])
        for count in (0, 1, 31, 32, 33, 63, 64, 65, -1):
            for number in self.WIDE:
                low = count & 63
                for word, told in (("lshl", number << low), ("lshr", number >> low), ("lushr", number % 2 ** 64 >> low)):
                    self.gives(longs(told), [("lconst", number), ("iconst", count), (word,)], result="J")

    def test_conversions(self):
        for number in self.VALUES + [127, 128, 255, 256, -128, -129, 32767, 32768, -32769]:
            self.gives(number, [("iconst", number), ("i2l",)], result="J")
            self.gives((number + 128) % 256 - 128, [("iconst", number), ("i2b",)])
            self.gives(number % 65536, [("iconst", number), ("i2c",)])
            self.gives((number + 32768) % 65536 - 32768, [("iconst", number), ("i2s",)])
        for number in self.WIDE:
            self.gives(ints(number), [("lconst", number), ("l2i",)])

    def test_lcmp(self):
        for one in self.WIDE:
            for other in self.WIDE:
                self.gives((one > other) - (one < other), [("lconst", one), ("lconst", other), ("lcmp",)])

    def test_what_they_leave(self):
        for put, word, left in (([I, I], "iadd", [("int", 10)]), ([I], "ineg", [("int", -5)]), ([J, J], "ladd", [("long", 12), "half"]),
                                ([J], "lneg", [("long", -6), "half"]), ([J, I], "lshl", [("long", 192), "half"]), ([I], "i2l", [("long", 5), "half"]),
                                ([J], "l2i", [("int", 6)]), ([I], "i2b", [("int", 5)]), ([J, J], "lcmp", [("int", 0)])):
            self.leaves(left, put, (word,))
        for put, row in (([I], ("ifeq", 0)), ([I, I], ("if_icmpne", 0)), ([N], ("ifnonnull", 0)), ([N, N], ("if_acmpne", 0)), ([I], ("istore", 1)),
                         ([J], ("lstore", 1)), ([N], ("astore", 1))):
            self.leaves([], put, row)
        self.leaves([], [I], ("switch", (), 3))

    def test_what_they_take(self):
        one_int = ["ineg", "i2l", "i2b", "i2c", "i2s"]
        two_ints = ["iadd", "isub", "imul", "idiv", "irem", "iand", "ior", "ixor", "ishl", "ishr", "iushr"]
        two_longs = ["ladd", "lsub", "lmul", "ldiv", "lrem", "land", "lor", "lxor", "lcmp"]
        taken = {**{word: [I] for word in one_int}, **{word: [I, I] for word in two_ints}, "lneg": [J], "l2i": [J],
                 **{word: [J, J] for word in two_longs}, **{word: [J, I] for word in ("lshl", "lshr", "lushr")}}
        for word, sorts in taken.items():
            for k, sort in enumerate(sorts):
                others = [[I, I], [N, I], [I, N], [N, N]] if sort == J else [[N]]
                for other in others:
                    rows = [row for part in ([[one] for one in sorts[:k]] + [other] + [[one] for one in sorts[k + 1:]]) for row in part]
                    self.wrong("sort", rows + [(word,)])
                if sort == I:
                    # A half, or a long without its half.
                    self.wrong("sort", [J] + sorts[k + 1:] + [(word,)] if k == 0 else sorts[:k] + [J, (word,)])
            self.wrong("few", sorts[1:] + [(word,)])
            self.wrong("few", [(word,)])
            for many in range(1, len(sorts) * 2):
                if many < sum(2 if sort == J else 1 for sort in sorts):
                    self.wrong("few", [N] * many + [(word,)])

    def test_sort_goes_ahead_of_what_is_thrown_and_of_full(self):
        self.wrong("sort", [N, ("iconst", 0), ("idiv",)])
        self.throws("ArithmeticException", [I, ("iconst", 0), ("idiv",)], stack=2)
        self.wrong("full", [I, ("i2l",)], stack=1)
        self.wrong("sort", [N, ("i2l",)], stack=1)


class Locals(MachineCase):
    def test_loads_and_stores(self):
        self.gives(5, [I, ("istore", 3), ("iload", 3)])
        self.gives(6, [J, ("lstore", 3), ("lload", 3)], result="J")
        self.gives(None, [N, ("astore", 3), ("aload", 3)], result="LA;")
        self.gives(2 ** 40, [("lload", 1)], [1, 2 ** 40], result="J")

    def test_raw_objects(self):
        self.ends([("new", "A"), ("astore", 1), ("aload", 1)])

    def test_unset(self):
        for word in ("iload", "lload", "aload"):
            self.wrong("unset", [(word, 3)])
            self.wrong("full", [I] * 20 + [("iload", 0)], arguments=[1], descriptor="(I)V")
        self.wrong("unset", [("iinc", 3, 1)])
        # Unset goes ahead of full, and local ahead of it.
        self.wrong("unset", [I, ("iload", 3)], stack=1)
        self.wrong("local", [("iload", 20)])

    def test_sorts(self):
        for put, word, right in ((I, "istore", "iload"), (J, "lstore", "lload"), (N, "astore", "aload")):
            for load in ("iload", "lload", "aload"):
                if load != right:
                    self.wrong("sort", [put, (word, 3), (load, 3)])
            if put != I:
                self.wrong("sort", [put, (word, 3), ("iinc", 3, 1)])
        for load in ("iload", "lload", "aload"):
            self.wrong("sort", [J, ("lstore", 3), (load, 4)])
        self.wrong("sort", [J, ("lstore", 3), ("iinc", 4, 1)])
        for word, put in (("istore", N), ("istore", J), ("astore", I), ("astore", J)):
            self.wrong("sort", [put, (word, 3)])
        for put in ([I, I], [N, N], [I, N]):
            self.wrong("sort", put + [("lstore", 3)])

    def test_few(self):
        for word in ("istore", "astore", "lstore"):
            self.wrong("few", [(word, 3)])
        self.wrong("few", [I, ("lstore", 3)])

    def test_beyond(self):
        for word, most in (("istore", 19), ("astore", 19), ("lstore", 18)):
            put = {"istore": I, "astore": N, "lstore": J}[word]
            self.ends([put, (word, most)])
            self.wrong("local", [put, (word, most + 1)])
            self.wrong("local", [(word, most + 1)])
        for word, most in (("iload", 19), ("aload", 19), ("lload", 18)):
            self.wrong("unset", [(word, most)])
            self.wrong("local", [(word, most + 1)])
        self.wrong("unset", [("iinc", 19, 1)])
        self.wrong("local", [("iinc", 20, 1)])

    def test_places_beside_a_store_keep_what_they_hold(self):
        rows = [("iconst", number) for number in (1, 2, 3)]
        for at, put in ((1, ("istore", 1)), (1, ("astore", 1))):
            told = [rows[0], ("istore", 0), rows[1], ("istore", at), rows[2], ("istore", 2), ("iconst", 4) if put[0] == "istore" else N, put]
            self.gives(1, told + [("iload", 0)])
            self.gives(3, told + [("iload", 2)])
        self.gives(1, [rows[0], ("istore", 0), J, ("lstore", 1), ("iload", 0)])
        self.gives(3, [rows[2], ("istore", 3), J, ("lstore", 1), ("iload", 3)])
        self.gives(7, [("iconst", 7), ("istore", 19), I, ("istore", 0), ("iload", 19)])

    def test_stores_over_longs(self):
        # The long begins at 3: what its two places are behind a store that hits one of them.
        for store, states in ((("istore", 3), {3: "set", 4: "unset"}), (("istore", 4), {3: "unset", 4: "set"}),
                              (("istore", 2), {3: "long"}), (("istore", 5), {3: "long"})):
            for at, state in states.items():
                rows = [J, ("lstore", 3), I, store]
                if state == "set":
                    self.gives(5, rows + [("iload", at)])
                elif state == "long":
                    self.gives(6, rows + [("lload", at)], result="J")
                else:
                    self.wrong("unset", rows + [("iload", at)])
                    self.wrong("unset", rows + [("lload", at)])
        for store, states in ((("lstore", 2), {2: "set", 3: "half", 4: "unset"}), (("lstore", 4), {3: "unset", 4: "set"}),
                              (("lstore", 3), {3: "set", 4: "half"})):
            for at, state in states.items():
                rows = [J, ("lstore", 3), ("lconst", 8), store]
                if state == "set":
                    self.gives(8, rows + [("lload", at)], result="J")
                else:
                    self.wrong("sort" if state == "half" else "unset", rows + [("lload", at)])
        # Two longs side by side: a third one takes a place of each.
        rows = [J, ("lstore", 3), J, ("lstore", 5), ("lconst", 8), ("lstore", 4)]
        self.wrong("unset", rows + [("lload", 3)])
        self.wrong("unset", rows + [("iload", 6)])
        self.gives(8, rows + [("lload", 4)], result="J")

    def test_iinc(self):
        for number, more in ((5, 7), (5, -7), (HIGH, 1), (LOW, -1), (0, 32767), (0, -32768)):
            self.gives(ints(number + more), [("iconst", number), ("istore", 3), ("iinc", 3, more), ("iload", 3)])


class Jumps(MachineCase):
    def jumps(self, expected, put, word):
        rows = [*put, (word, len(put) + 3), ("iconst", 0), ("ireturn",), ("iconst", 1)]
        self.gives(1 if expected else 0, rows)

    def test_ints(self):
        for one in (LOW, -1, 0, 1, HIGH):
            for word, holds in (("ifeq", one == 0), ("ifne", one != 0), ("iflt", one < 0), ("ifge", one >= 0), ("ifgt", one > 0),
                                ("ifle", one <= 0)):
                self.jumps(holds, [("iconst", one)], word)
            for other in (LOW, -1, 0, 1, HIGH):
                for word, holds in (("eq", one == other), ("ne", one != other), ("lt", one < other), ("ge", one >= other),
                                    ("gt", one > other), ("le", one <= other)):
                    self.jumps(holds, [("iconst", one), ("iconst", other)], "if_icmp" + word)

    def test_references(self):
        self.jumps(True, [N], "ifnull")
        self.jumps(False, [N], "ifnonnull")
        for put in (new("A"), [("new", "A")], [("string", "x")], [("iconst", 1), ("newarray", "I")]):
            self.jumps(False, put, "ifnull")
            self.jumps(True, put, "ifnonnull")
            self.jumps(True, put + [("dup",)], "if_acmpeq")
            self.jumps(False, put + [("dup",)], "if_acmpne")
            self.jumps(False, put + [N], "if_acmpeq")
            self.jumps(True, [N] + put, "if_acmpne")
        self.jumps(False, new("A") + new("A"), "if_acmpeq")
        self.jumps(True, [("string", "x"), ("string", "x")], "if_acmpeq")
        self.jumps(False, [("string", "x"), ("string", "y")], "if_acmpeq")
        self.jumps(True, [("class", "A"), ("class", "A")], "if_acmpeq")
        self.jumps(False, [("class", "A"), ("class", "[LA;")], "if_acmpeq")
        self.jumps(True, [N, N], "if_acmpeq")

    def test_goto(self):
        self.gives(1, [("goto", 3), ("iconst", 0), ("ireturn",), ("iconst", 1)])

    def test_switch(self):
        for number, expected in ((LOW, 1), (5, 2), (HIGH, 3), (0, 0), (6, 0), (-1, 0)):
            rows = [("iconst", number), ("switch", ((LOW, 4), (5, 6), (HIGH, 8)), 2), ("iconst", 0), ("ireturn",), ("iconst", 1),
                    ("ireturn",), ("iconst", 2), ("ireturn",), ("iconst", 3)]
            self.gives(expected, rows)
        self.gives(4, [I, ("switch", (), 3), N, ("iconst", 4)])
        self.gives(4, [I, ("switch", (), 4), ("iconst", 3), ("ireturn",), ("iconst", 4)])

    def test_what_they_take(self):
        for word in ("ifeq", "ifne", "iflt", "ifge", "ifgt", "ifle"):
            for put in ([N], [J]):
                self.wrong("sort", put + [(word, 0)])
            self.wrong("few", [(word, 0)])
        self.wrong("sort", [N, ("switch", (), 0)])
        self.wrong("few", [("switch", (), 0)])
        for word in ("eq", "ne", "lt", "ge", "gt", "le"):
            for put in ([N, I], [I, N], [J]):
                self.wrong("sort", put + [("if_icmp" + word, 0)])
            self.wrong("few", [I, ("if_icmp" + word, 0)])
        for word in ("if_acmpeq", "if_acmpne"):
            for put in ([N, I], [I, N], [J]):
                self.wrong("sort", put + [(word, 0)])
            self.wrong("few", [N, (word, 0)])
        for word in ("ifnull", "ifnonnull"):
            for put in ([I], [J]):
                self.wrong("sort", put + [(word, 0)])
            self.wrong("few", [(word, 0)])

    def test_no_row_there(self):
        self.wrong("jump", [("nop",)], 1)
        self.wrong("jump", [I, I, ("pop",)], 3)
        # Told although no step is left.
        self.wrong("jump", [("nop",)], 1, steps=1)
        self.assertEqual(self.run_rows([("nop",), ("nop",)], steps=1)[1], ("open", "steps"))


class Stack(MachineCase):
    PUT = {"a": ("iconst", 1), "b": ("iconst", 2), "c": ("iconst", 3), "d": ("iconst", 4), "w": ("lconst", 5), "v": ("lconst", 6)}
    MOVED = {
        "pop": [("a", "")], "pop2": [("ab", ""), ("w", "")], "swap": [("ab", "ba")], "dup": [("a", "aa")],
        "dup_x1": [("ab", "bab")], "dup_x2": [("abc", "cabc"), ("wa", "awa")], "dup2": [("ab", "abab"), ("w", "ww")],
        "dup2_x1": [("abc", "bcabc"), ("aw", "waw")],
        "dup2_x2": [("abcd", "cdabcd"), ("abw", "wabw"), ("wab", "abwab"), ("wv", "vwv")],
    }

    def rows(self, letters):
        return [self.PUT[letter] for letter in letters]

    def test_right_ones(self):
        for word, told in self.MOVED.items():
            for ahead, behind in told:
                world = self.world([*self.rows("a" + ahead), (word,), ("return",)])
                seen = Machine(world).seen("a", "A", "go", "()V", [])
                expected = []
                for letter in "a" + behind:
                    row = self.PUT[letter]
                    expected += [("int", row[1])] if row[0] == "iconst" else [("long", row[1]), "half"]
                self.assertEqual(seen[-1][5], expected, (word, ahead))

    def test_few(self):
        for word, many in (("pop", 1), ("pop2", 2), ("swap", 2), ("dup", 1), ("dup_x1", 2), ("dup_x2", 3), ("dup2", 2), ("dup2_x1", 3),
                           ("dup2_x2", 4)):
            for fewer in range(many):
                self.wrong("few", [N] * fewer + [(word,)])
            self.ends([N] * many + [(word,)])

    def test_halves(self):
        for word, wrong in (("pop", ["w"]), ("dup", ["w"]), ("swap", ["w", "aw", "wa"]), ("dup_x1", ["w", "aw", "wa"]),
                            ("pop2", ["wa"]), ("dup2", ["wa"]), ("dup_x2", ["aw", "ww", "waa"]), ("dup2_x1", ["wa", "wb", "ww", "wab"]),
                            ("dup2_x2", ["wabc", "awb", "waw"])):
            for letters in wrong:
                self.wrong("sort", self.rows(letters) + [(word,)])

    def test_raw_objects_are_moved_too(self):
        for word, many in (("pop", 1), ("dup", 1), ("swap", 2), ("dup_x1", 2), ("pop2", 2), ("dup2_x2", 4)):
            self.ends([("new", "A")] * many + [(word,)])

    def test_full(self):
        for word, told in self.MOVED.items():
            for ahead, behind in told:
                size = sum(2 if letter in "wv" else 1 for letter in behind)
                if len(behind) > len(ahead):
                    self.ends(self.rows(ahead) + [(word,)], stack=size)
                    self.wrong("full", self.rows(ahead) + [(word,)], stack=size - 1)


class Chance(MachineCase):
    def test_many_operations(self):
        source = random.Random(3)
        for _ in range(300):
            word = source.choice(list(OPERATIONS))
            one, other = source.randrange(LOWEST, HIGHEST), source.randrange(LOWEST, HIGHEST)
            self.gives(longs(OPERATIONS[word](one, other)), [("lconst", one), ("lconst", other), ("l" + word,)], result="J")
            one, other = ints(one), ints(other) or 1
            self.gives(ints(OPERATIONS[word](one, other)), [("iconst", one), ("iconst", other), ("i" + word,)])


if __name__ == "__main__":
    unittest.main()
