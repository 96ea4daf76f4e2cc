"""Points [6] and [7]: equations of a cell, looked at and told."""

import itertools
import math
import random
import unittest

from cases import EVERY_WORD, GREATEST, cell_of
from laidcells.cells.equations import equations, is_equation
from laidcells.cells.texts import read_cell
from plain import any_cell, null_vectors, plain_is_equation, plain_things, plain_values, rank

ADDER = cell_of("in x y c; s odd x y c; m most x y c; out s m")
SUM = {"x": 1, "y": 1, "c": 1, "s": -1, "m": -2}

# (cell, weights): equations that hold.
HOLDING = (
    (ADDER, SUM),
    (ADDER, {"m": 4, "s": 2, "c": -2, "y": -2, "x": -2}),
    (ADDER, {"x": 999999999, "y": 999999999, "c": 999999999, "s": -999999999, "m": -1999999998}),
    (cell_of("in x; n not x; out n"), {"": 1, "x": -1, "n": -1}),
    (cell_of("in; h one; out h"), {"": 7, "h": -7}),
    (cell_of("in a; l nil; out l"), {"l": 5}),
    (cell_of("in x y; p and x y; out p"), {"p": 1, ("x", "y"): -1}),
    (cell_of("in x y; p or x y; out p"), {"x": 1, "y": 1, ("x", "y"): -1, "p": -1}),
    (cell_of("in x y; p odd x y; out p"), {"x": 1, "y": 1, ("x", "y"): -2, "p": -1}),
    (cell_of("in x y z; p most x y z; q and x y z; out p q"),
     {"p": 1, "q": 2, ("x", "y"): -1, ("x", "z"): -1, ("y", "z"): -1}),
    (cell_of("in y x; p and x y; out p"), {("y", "x"): 3, "p": -3}),
    # Outputs that are inputs: their weight counts once.
    (cell_of("in a; x or a a; out a x"), {"a": 1, "x": -1}),
    (cell_of("in a b; x odd a b; y and a b; out y b x a"), {"a": 1, "b": 1, "x": -1, "y": -2}),
    (cell_of("in a b; p and a b; out a b p"), {"p": -1, ("a", "b"): 1}),
)


def detector(bits):
    """A cell of six inputs whose output is 1 at this one row of bits alone."""
    names, gates, known = tuple("abcdef"), [], []
    for name, bit in zip(names, bits):
        if not bit:
            gates.append(("n" + name, "not", (name,)))
        known.append(name if bit else "n" + name)
    gates += [("u", "and", tuple(known[:3])), ("v", "and", tuple(known[3:])), ("p", "and", ("u", "v"))]
    return (names, tuple(gates), ("p",))


def some_cells(chance, count):
    """Cells of none to six inputs, none to 24 gates, none to six outputs, inputs among them."""
    for inputs in range(7):
        for outputs in range(7):
            for step in range(count):
                gates = chance.choice((0, 1, 2, 3, 4, 6, 9, 24))
                yield any_cell(chance, inputs, gates, outputs, take_inputs=chance.random() < 0.5)


class LookingAt(unittest.TestCase):
    def check(self, cell, weights, holds):
        before = list(weights.items())
        for again in range(2):
            answer = is_equation(cell, weights)
            self.assertIs(answer, holds, (cell, weights))
            self.assertEqual(list(weights.items()), before)

    def check_changed(self, cell, weights, things):
        for thing in things:
            for change in (-1, 1, 2):
                changed = dict(weights)
                changed[thing] = changed.get(thing, 0) + change
                self.check(cell, changed, plain_is_equation(cell, changed))

    def test_equations_that_hold(self):
        for cell, weights in HOLDING:
            self.assertTrue(plain_is_equation(cell, weights))
            self.check(cell, weights, True)
            self.check(cell, dict(reversed(weights.items())), True)

    def test_one_weight_changed(self):
        for cell, weights in HOLDING:
            self.check_changed(cell, weights, plain_things(cell, True))

    def test_an_adders_weights_changed_or_left_out(self):
        for thing in [""] + list(SUM) + [("x", "y"), ("x", "c"), ("y", "c")]:
            for change in (-1, 1):
                self.check(ADDER, SUM | {thing: SUM.get(thing, 0) + change}, False)
        for thing in SUM:
            self.check(ADDER, {name: SUM[name] for name in SUM if name != thing}, False)

    def test_the_number_itself(self):
        for cell in (ADDER, cell_of("in; out"), cell_of("in a; out a"), read_cell(EVERY_WORD)):
            for number in (1, -1, 999999999):
                self.check(cell, {"": number}, False)
            self.check(cell, {"": 0}, True)

    def test_no_weights_and_weights_of_nought(self):
        for cell in (ADDER, cell_of("in; out"), cell_of("in; h one; out h"), read_cell(GREATEST)):
            self.check(cell, {}, True)
            self.check(cell, dict.fromkeys(plain_things(cell, True), 0), True)

    def test_an_output_that_is_an_input_has_one_weight(self):
        cell = cell_of("in a; x or a a; out a x")
        self.check(cell, {"a": 1, "x": -2}, False)
        self.check(cell, {"a": 2, "x": -1}, False)
        self.check(cell_of("in a; out a"), {"a": 1}, False)

    def test_a_pair_is_both_bits_product(self):
        cell = cell_of("in x y; p and x y; out p")
        self.check(cell, {"p": 1, ("x", "y"): -2}, False)
        self.check(cell, {"p": 1, "x": -1}, False)
        self.check(cell, {("x", "y"): 1}, False)

    def test_broken_at_one_row_of_bits_alone(self):
        for bits in itertools.product((0, 1), repeat=6):
            self.check(detector(bits), {"p": 1}, False)
            self.check(detector(bits), {}, True)

    def test_cells_by_chance(self):
        chance = random.Random("looked at")
        for cell in some_cells(chance, 2):
            things = plain_things(cell, True)
            for vector in null_vectors(plain_values(cell, things), len(things))[:3]:
                weights = {thing: weight for thing, weight in zip(things, vector) if weight}
                self.check(cell, weights, True)
                self.check_changed(cell, weights, chance.sample(things, min(3, len(things))))
            weights = {thing: chance.randint(-2, 2) for thing in things}
            self.check(cell, weights, plain_is_equation(cell, weights))


class Telling(unittest.TestCase):
    def check(self, cell, pairs):
        told = equations(cell, pairs)
        things = plain_things(cell, pairs)
        self.assertIs(type(told), list)
        self.assertEqual(len(told), len(things) - rank(plain_values(cell, things)), cell)
        firsts = []
        for weights in told:
            self.assertIs(type(weights), dict)
            self.assertLessEqual(set(weights), set(things))
            self.assertEqual({type(weight) for weight in weights.values()}, {int})
            self.assertNotIn(0, weights.values())
            self.assertTrue(plain_is_equation(cell, weights))
            self.assertTrue(is_equation(cell, weights))
            self.assertEqual(math.gcd(*weights.values()), 1)
            firsts.append(min(things.index(thing) for thing in weights))
            self.assertGreater(weights[things[firsts[-1]]], 0)
        self.assertEqual(firsts, sorted(set(firsts)))
        for first in firsts:
            self.assertEqual(len([weights for weights in told if things[first] in weights]), 1)
        self.assertEqual(equations(cell, pairs), told)
        return told

    def told(self, text, pairs, expected):
        cell = cell_of(text)
        self.assertEqual(equations(cell, pairs), expected)
        self.check(cell, pairs)

    def test_an_adder(self):
        self.assertEqual(equations(ADDER, False), [SUM])
        self.check(ADDER, False)
        self.assertIn(SUM, self.check(ADDER, True))

    def test_small_cells(self):
        self.told("in; out", False, [])
        self.told("in; out", True, [])
        self.told("in a b c; out", True, [])
        self.told("in a b c; out c a", True, [])
        self.told("in; h one; out h", True, [{"": 1, "h": -1}])
        self.told("in; l nil; out l", False, [{"l": 1}])
        self.told("in x; n not x; out n", False, [{"": 1, "x": -1, "n": -1}])
        self.told("in x; n not x; out n x", True, [{"": 1, "x": -1, "n": -1}])
        self.told("in x; y or x x; out y", False, [{"x": 1, "y": -1}])

    def test_pairs_are_taken_where_it_is_asked_so(self):
        self.told("in x y; p and x y; out p", False, [])
        self.told("in x y; p and x y; out p", True, [{"p": 1, ("x", "y"): -1}])
        self.told("in y x; p and x y; out p", True, [{"p": 1, ("y", "x"): -1}])
        self.told("in x y; p odd x y; out p", True, [{"x": 1, "y": 1, "p": -1, ("x", "y"): -2}])
        self.told("in z x y; p and x y; q or y z; out q p", True,
                  [{"z": 1, "y": 1, "q": -1, ("z", "y"): -1}, {"p": 1, ("x", "y"): -1}])

    def test_a_first_weight_above_1(self):
        copies = "xx or x x; yy or y y; zz or z z"
        self.told(f"in x y z; m most x y z; s odd x y z; {copies}; out m s xx yy zz", False,
                  [{"x": 1, "xx": -1}, {"y": 1, "yy": -1}, {"z": 1, "zz": -1},
                   {"m": 2, "s": 1, "xx": -1, "yy": -1, "zz": -1}])

    def test_outputs_that_are_inputs_are_one_thing(self):
        self.told("in a b; x odd a b; y and a b; out b y a x", False, [{"a": 1, "b": 1, "y": -2, "x": -1}])
        self.told("in a b; x or b b; out x b a", False, [{"b": 1, "x": -1}])

    def test_the_greatest_cells(self):
        for cell in (read_cell(GREATEST), read_cell(EVERY_WORD)):
            self.check(cell, False)
            self.check(cell, True)

    def test_cells_by_chance(self):
        chance = random.Random("told")
        several = 0
        for cell in some_cells(chance, 3):
            several += len(self.check(cell, False)) > 1
            several += len(self.check(cell, True)) > 1
        self.assertGreater(several, 50)

    def test_no_list_tells_more_or_less_than_what_holds(self):
        # Weights by chance that hold are sums of the told ones: what is left without the first things is nothing.
        chance = random.Random("sums")
        for cell in some_cells(chance, 1):
            things = plain_things(cell, True)
            told = equations(cell, True)
            firsts = [next(thing for thing in things if thing in weights) for weights in told]
            for vector in null_vectors(plain_values(cell, things), len(things)):
                common = math.prod(weights[first] for weights, first in zip(told, firsts))
                rest = {thing: weight * common for thing, weight in zip(things, vector)}
                for weights, first in zip(told, firsts):
                    times = rest[first] // weights[first]
                    rest = {thing: rest[thing] - times * weights.get(thing, 0) for thing in things}
                self.assertEqual(set(rest.values()), {0})

    def test_what_is_told_is_the_askers_own(self):
        for pairs in (False, True):
            told = equations(ADDER, pairs)
            before = [dict(weights) for weights in told]
            told[0]["x"] = 17
            told[0]["strange"] = 1
            told.append({})
            self.assertEqual(equations(ADDER, pairs), before)
            told.clear()
            self.assertEqual(equations(ADDER, pairs), before)


if __name__ == "__main__":
    unittest.main()
