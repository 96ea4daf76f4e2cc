"""Point [9]: whether a claim for a row holds at a width."""

import random
import unittest

from cases import HOLDING, ROWS, cell_of, counter
from laidcells.rows.rows import claim_holds
from plain import (any_edges, any_of, any_row, claims_shown, one_changed, plain_holds, plain_sum, sides,
                   small_widths)

WIDTHS = tuple(range(1, 41))


class Holding(unittest.TestCase):
    def check(self, row, claim, width, holds):
        edges, weights = claim
        kept = (list(edges.items()), list(weights.items()))
        for again in range(2):
            self.assertIs(claim_holds(row, claim, width), holds, (row, claim, width))
            self.assertEqual((list(edges.items()), list(weights.items())), kept)

    def check_small(self, row, claim):
        for width in small_widths(row):
            self.check(row, claim, width, plain_holds(row, claim, width))

    def test_claims_that_hold_at_every_width(self):
        for name, weights in HOLDING:
            row = ROWS[name]
            self.check_small(row, (any_of(row), weights))
            for width in WIDTHS:
                self.check(row, (any_of(row), weights), width, True)

    def test_one_weight_changed(self):
        for name, weights in HOLDING:
            row = ROWS[name]
            for thing, changed in one_changed(row, weights):
                claim = (any_of(row), changed)
                self.check_small(row, claim)
                # A change breaks it at each width, but of what is 0 everywhere.
                for width in (1, 2, 7, 40):
                    self.check(row, claim, width, thing == "l")

    def test_edges(self):
        row = ROWS["count"]
        for weights in ({"x": 1, "s": -1}, {"x": 1, "s": -1, "c": 1}, {"c": 1}, {"x": 1, "s": -1, "": 1}):
            for edge in (0, 1, None):
                self.check_small(row, ({"c": edge}, weights))
        for width in WIDTHS:
            self.check(row, ({"c": 0}, {"x": 1, "s": -1}), width, True)
            self.check(row, ({"c": 1}, {"x": 1, "s": -1}), width, False)
            self.check(row, ({"c": None}, {"x": 1, "s": -1}), width, False)
            self.check(row, ({"c": 0}, {"c": 1}), width, True)
            self.check(row, ({"c": 1}, {"c": 1}), width, False)
        row = ROWS["triple from nought"]
        weights = {"x": 3, "c": 1, "d": 2, "s": -1}
        for width in WIDTHS:
            for c in (0, 1, None):
                for d in (0, 1, None):
                    self.check(row, ({"d": d, "c": c}, weights), width, c == 0 or d == 0)

    def test_claims_that_hold_at_some_widths_alone(self):
        # c turns at each place: its end is 0 again at each even width.
        row = (cell_of("in c; m not c; out m"), (("m", "c"),))
        for width in WIDTHS:
            self.check(row, ({"c": 0}, {"c": 1}), width, width % 2 == 0)
            self.check(row, ({"c": 1}, {"c": 1}), width, False)
            self.check(row, ({"c": 1}, {"c": 1, "": 1}), width, width % 2 == 0)
            self.check(row, ({"c": None}, {"c": 1, "": 1}), width, False)
        # Places are counted in a and b: their ends are 0 in turn, and s tells the fourth place first.
        row = counter(2, 0)
        for width in WIDTHS:
            self.check(row, ({"a": 0, "b": 0}, {"s": 1}), width, width < 4)
            self.check(row, ({"a": 0, "b": 0}, {"a": 1}), width, width % 2 == 0)
            self.check(row, ({"a": 0, "b": 0}, {"b": 3}), width, width % 4 < 2)
            self.check(row, ({"a": 0, "b": 0}, {"a": 1, "b": 5}), width, width % 4 == 0)

    def test_a_break_at_one_word_alone_is_seen(self):
        # Only a word of all ones but the last, or of all ones, fills the counter.
        for bits in (1, 2, 3, 4):
            row = counter(bits, 1)
            edges = {name: 0 for output, name in row[1]}
            for width in WIDTHS:
                self.check(row, (edges, {"s": 1}), width, width < 2 ** bits)
        # A carry through all places comes of the words that are all ones, and an edge of 1.
        row = (cell_of("in x c; m and x c; s nil; out m s"), (("m", "c"),))
        for width in WIDTHS:
            self.check(row, ({"c": 1}, {"c": 1, "": -1}), width, False)
            self.check(row, ({"c": 0}, {"c": 1}), width, True)

    def test_the_number_itself(self):
        for name in ("empty", "no outputs", "adder", "everything"):
            row = ROWS[name]
            for width in (1, 2, 3, 40):
                self.check(row, (any_of(row), {"": 1}), width, False)
                self.check(row, (any_of(row), {"": 0}), width, True)
                self.check(row, (any_of(row), {}), width, True)

    def test_rows_by_chance_at_small_widths(self):
        chance = random.Random("holds")
        seen = {True: 0, False: 0}
        for step in range(250):
            row = any_row(chance, chance.randint(0, 4), chance.choice((1, 2, 4, 9)), chance.randint(1, 4),
                          chance.randint(0, 3))
            edges = any_edges(chance, row)
            ins, carried, outs, ends = sides(row)
            claims = [{thing: chance.randint(-1, 1) for thing in [""] + ins + carried + outs}]
            claims += [{thing: chance.choice((0, 0, 0, 1)) for thing in ins + carried + outs}]
            claims += claims_shown(row, edges)[:2]
            for weights in claims:
                for width in small_widths(row):
                    holds = plain_holds(row, (edges, weights), width)
                    self.check(row, (edges, weights), width, holds)
                    seen[holds] += 1
        self.assertGreater(min(seen.values()), 300)

    def test_rows_by_chance_at_great_widths(self):
        chance = random.Random("great")
        for step in range(60):
            row = any_row(chance, 6, 24, 6, 4)
            edges = any_edges(chance, row)
            ins, carried, outs, ends = sides(row)
            for weights in claims_shown(row, edges)[:2]:
                for width in (17, 39, 40):
                    self.check(row, (edges, weights), width, True)
            weights = {thing: chance.randint(-2, 2) for thing in [""] + ins + carried + outs}
            for width in (17, 39, 40):
                # Words by chance that break it show that it does not hold.
                for attempt in range(5):
                    words = {name: chance.randint(0, 2 ** width - 1) for name in ins}
                    bits = {name: chance.randint(0, 1) if edges[name] is None else edges[name] for name in carried}
                    if plain_sum(row, weights, width, words, bits) != 0:
                        self.check(row, (edges, weights), width, False)

    def test_what_becomes_of_the_dicts_later_does_not_matter(self):
        edges, weights = {"c": None}, {"x": 1, "y": 1, "c": 1, "s": -1}
        self.check(ROWS["adder"], (edges, weights), 40, True)
        weights["x"] = 2
        self.check(ROWS["adder"], (edges, weights), 40, False)
        weights["x"] = 1
        self.check(ROWS["adder"], (edges, weights), 40, True)


if __name__ == "__main__":
    unittest.main()
