"""Point [5]: the bits of a cell's outputs, by bits of its inputs."""

import itertools
import unittest

from cases import ADDER, EVERY_WORD, GREATEST
from laidcells.cells.bits import told_by
from laidcells.cells.texts import read_cell
from laidcells.errors import NoName

# What each word tells, written out for all bits of its names, 0 .. 0 first.
TABLES = (
    ("and", 2, "0001"), ("and", 3, "00000001"),
    ("or", 2, "0111"), ("or", 3, "01111111"),
    ("odd", 2, "0110"), ("odd", 3, "01101001"),
    ("most", 3, "00010111"),
    ("not", 1, "10"),
    ("one", 0, "1"),
    ("nil", 0, "0"),
)


class Told(unittest.TestCase):
    def test_every_word_by_all_its_bits(self):
        for word, count, table in TABLES:
            names = tuple("abc")[:count]
            cell = (names, (("x", word, names),), ("x",))
            for bits, told in zip(itertools.product((0, 1), repeat=count), table, strict=True):
                with self.subTest(word=word, bits=bits):
                    self.check(cell, dict(zip(names, bits)), (int(told),))

    def test_names_alike(self):
        cell = read_cell("in a b\nx and a a\ny or b b b\nz odd a a\nu odd b b b\nm most a b a\nout x y z u m")
        for a, b in itertools.product((0, 1), repeat=2):
            self.check(cell, {"a": a, "b": b}, (a, b, 0, b, a))

    def test_gates_of_gates(self):
        cell = read_cell("in a b\nna not a\nnb not b\nl and a nb\nr and na b\nx or l r\nsame not x\nout same x r")
        for a, b in itertools.product((0, 1), repeat=2):
            self.check(cell, {"a": a, "b": b}, (int(a == b), int(a != b), int(a < b)))

    def test_an_adder(self):
        cell = read_cell(ADDER)
        for x, y, c in itertools.product((0, 1), repeat=3):
            total = x + y + c
            self.check(cell, {"x": x, "y": y, "c": c}, (total & 1, total >> 1))

    def test_a_cell_of_every_word(self):
        cell = read_cell(EVERY_WORD)
        cell = (cell[0], cell[1], ("low", "high", "n", "m", "xthree", "athree"))
        for a, b, c in itertools.product((0, 1), repeat=3):
            told = (0, 1, 1 - a, int(a + b + c > 1), (a + b + c) % 2, a * b * c)
            self.check(cell, {"a": a, "b": b, "c": c}, told)

    def test_outputs_are_in_their_order(self):
        for outputs in itertools.permutations(("a", "x", "y", "h")):
            cell = (("a", "b"), (("x", "not", ("a",)), ("y", "and", ("a", "b")), ("h", "one", ())), outputs)
            for a, b in itertools.product((0, 1), repeat=2):
                told = {"a": a, "x": 1 - a, "y": a * b, "h": 1}
                self.check(cell, {"a": a, "b": b}, tuple([told[name] for name in outputs]))

    def test_outputs_that_are_inputs(self):
        cell = read_cell("in a b c\nout c a")
        for a, b, c in itertools.product((0, 1), repeat=3):
            self.check(cell, {"a": a, "b": b, "c": c}, (c, a))

    def test_no_inputs_gates_or_outputs(self):
        self.check(((), (), ()), {}, ())
        self.check(((), (), ()), {"a": 1}, ())
        self.check((("a",), (), ()), {"a": 1}, ())
        self.check(((), (("x", "one", ()), ("y", "nil", ())), ("y", "x")), {}, (0, 1))

    def test_the_greatest_cell(self):
        cell = read_cell(GREATEST)
        for bits in itertools.product((0, 1), repeat=6):
            row = list(bits)
            for step in range(20):
                row.append(int(sum(row[-3:]) >= 2))
            self.check(cell, dict(zip(cell[0], bits)), (bits[0], bits[1], row[-1]) + (sum(row[-3:]) % 2,) * 3)

    def test_dicts_with_more_names_and_in_any_order(self):
        cell = read_cell(ADDER)
        bits = {"x": 1, "y": 0, "c": 1}
        for order in itertools.permutations(bits):
            self.check(cell, {name: bits[name] for name in order}, (0, 1))
            # Names of gates and outputs in the dict are names more, and tell nothing.
            for bit in (0, 1):
                more = {"s": 1 - bit, "m": bit, "z": bit, "": bit, "and": bit}
                more.update({name: bits[name] for name in order})
                self.check(cell, more, (0, 1))

    def test_no_name_for_an_input_that_lacks(self):
        cell = read_cell(ADDER)
        for kept in itertools.product((False, True), repeat=3):
            bits = {name: 1 for name, keep in zip(cell[0], kept) if keep}
            lacking = [name for name in cell[0] if name not in bits]
            if lacking:
                self.refused(cell, bits, lacking[0])
                self.refused(cell, dict(bits, s=1, m=0, z=1), lacking[0])

    def test_the_first_is_by_the_inputs_order(self):
        for inputs in itertools.permutations(("a", "b", "c")):
            cell = (inputs, (("x", "and", ("c", "b", "a")),), ("x",))
            self.refused(cell, {}, inputs[0])
            self.refused(cell, {inputs[0]: 0}, inputs[1])
            self.refused(cell, {inputs[1]: 0, inputs[0]: 1}, inputs[2])

    def test_no_name_also_where_nothing_hangs_on_it(self):
        self.refused(read_cell("in a\nout"), {}, "a")
        self.refused(read_cell("in a b\nout a"), {"a": 1}, "b")
        self.refused(read_cell("in a b\nx not b\nout x"), {"b": 1}, "a")
        self.refused(read_cell("in a b\nlow nil\nx and low b\nout x"), {"a": 0}, "b")

    def test_a_bit_of_0_does_not_lack(self):
        self.check(read_cell("in a\nout a"), {"a": 0}, (0,))

    def test_what_becomes_of_the_dict_later_does_not_matter(self):
        cell = read_cell("in a\nx not a\nout a x")
        bits = {"a": 1}
        told = told_by(cell, bits)
        bits["a"] = 0
        self.assertEqual(told, (1, 0))
        self.assertEqual(told_by(cell, bits), (0, 1))

    def check(self, cell, bits, told):
        before = list(bits.items())
        for again in range(2):
            answer = told_by(cell, bits)
            self.assertEqual(answer, told)
            self.assertIs(type(answer), tuple)
            self.assertEqual([type(bit) for bit in answer], [int] * len(told))
            self.assertEqual(list(bits.items()), before)

    def refused(self, cell, bits, word):
        before = list(bits.items())
        with self.assertRaises(NoName) as caught:
            told_by(cell, bits)
        self.assertEqual(caught.exception.word, word)
        self.assertEqual(list(bits.items()), before)


if __name__ == "__main__":
    unittest.main()
