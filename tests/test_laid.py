"""Point [8]: rows laid at a width."""

import random
import unittest

from cases import GREATEST, ROWS, cell_of, counter
from laidcells.cells.texts import read_cell
from laidcells.errors import NoName
from laidcells.rows.rows import laid
from plain import any_row, bit_tuples, plain_laid, sides

WIDTHS = tuple(range(1, 41))


def some_words(chance, names, width):
    """Dicts of words: all 0, all ones, the two in turn, ones at one end, and any."""
    ones = 2 ** width - 1
    for choose in (lambda: 0, lambda: ones, lambda: chance.choice((0, ones)), lambda: 2 ** (width - 1), lambda: 1,
                   lambda: chance.randint(0, ones), lambda: chance.randint(0, ones)):
        yield {name: choose() for name in names}


class Laying(unittest.TestCase):
    def check(self, row, width, words, edges):
        kept = (list(words.items()), list(edges.items()))
        for again in range(2):
            answer = laid(row, width, words, edges)
            self.assertIs(type(answer), tuple)
            self.assertEqual([type(part) for part in answer], [dict, dict])
            self.assertEqual(answer, plain_laid(row, width, words, edges), (row, width, words, edges))
            self.assertEqual({type(number) for part in answer for number in part.values()} - {int}, set())
            self.assertEqual((list(words.items()), list(edges.items())), kept)
        return answer

    def check_row(self, chance, row, widths):
        ins, carried, outs, ends = sides(row)
        for width in widths:
            for words in some_words(chance, ins, width):
                edges = {name: chance.randint(0, 1) for name in carried}
                told, last = self.check(row, width, words, edges)
                self.assertEqual((set(told), set(last)), (set(outs), set(ends)))

    def test_an_adder(self):
        row = ROWS["adder"]
        chance = random.Random("adder")
        for width in WIDTHS:
            for words in some_words(chance, ("x", "y"), width):
                for c in (0, 1):
                    total = words["x"] + words["y"] + c
                    told = ({"s": total % 2 ** width}, {"m": total >> width})
                    self.assertEqual(laid(row, width, words, {"c": c}), told)

    def test_rows_that_reckon(self):
        chance = random.Random("reckoning")
        for width in WIDTHS:
            worth = 2 ** width
            x, y, z = [chance.randint(0, worth - 1) for name in "xyz"]
            told = laid(ROWS["count"], width, {"x": x}, {"c": 1})
            self.assertEqual(told, ({"s": (x + 1) % worth}, {"m": (x + 1) // worth}))
            told = laid(ROWS["less"], width, {"x": x, "y": y}, {"c": 0})
            self.assertEqual(told, ({"s": (x - y) % worth}, {"m": int(x < y)}))
            told = laid(ROWS["double"], width, {"x": x}, {"c": 1})
            self.assertEqual(told, ({"s": (2 * x + 1) % worth}, {"m": 2 * x // worth}))
            told = laid(ROWS["triple"], width, {"x": x}, {"c": 0, "d": 0})
            self.assertEqual(told, ({"s": 3 * x % worth}, {"m": 3 * x // worth % 2, "j": 3 * x // worth // 2}))
            told, ends = laid(ROWS["three"], width, {"x": x, "y": y, "z": z}, {"a": 1, "b": 1})
            self.assertEqual(told["s"] + worth * (ends["k"] + ends["m"]), x + y + z + 2)

    def test_each_row_at_each_width(self):
        chance = random.Random("rows")
        for name, row in ROWS.items():
            self.check_row(chance, row, WIDTHS)
        for bits, words in ((1, 2), (2, 1), (3, 0), (4, 2)):
            self.check_row(chance, counter(bits, words), WIDTHS)

    def test_by_all_words_at_small_widths(self):
        for name, row in ROWS.items():
            ins, carried, outs, ends = sides(row)
            for width in (1, 2, 3):
                if width * len(ins) + len(carried) <= 9:
                    for bits in bit_tuples(width * len(ins)):
                        words = {name: int("".join(map(str, bits[at::len(ins)])), 2) for at, name in enumerate(ins)}
                        for edges in bit_tuples(len(carried)):
                            self.check(row, width, words, dict(zip(carried, edges)))

    def test_nothing_carried(self):
        row = ROWS["nothing"]
        told = laid(row, 4, {"x": 0b1100, "y": 0b1010}, {})
        self.assertEqual(told, ({"p": 0b1000, "q": 0b0110, "n": 0b0101, "h": 15, "l": 0}, {}))
        self.assertEqual(laid(ROWS["no inputs"], 40, {}, {}), ({"h": 2 ** 40 - 1, "l": 0}, {}))

    def test_everything_carried_and_no_words(self):
        self.assertEqual(laid(ROWS["everything"], 1, {}, {"a": 0, "b": 1}), ({}, {"u": 1, "v": 1}))
        self.assertEqual(laid(ROWS["everything"], 2, {}, {"a": 0, "b": 1}), ({}, {"u": 0, "v": 0}))
        self.assertEqual(laid(ROWS["crossed"], 1, {}, {"a": 0, "b": 1}), ({}, {"u": 1, "v": 1}))
        self.assertEqual(laid(ROWS["crossed"], 2, {}, {"a": 0, "b": 1}), ({}, {"u": 0, "v": 0}))
        self.assertEqual(laid(ROWS["no words in"], 5, {}, {"c": 1}), ({"s": 0b10101}, {"m": 0}))
        self.assertEqual(laid(ROWS["no words out"], 5, {"x": 0b10110}, {"c": 1}), ({}, {"m": 0}))

    def test_no_words_and_no_edges(self):
        for width in (1, 40):
            self.assertEqual(laid(ROWS["empty"], width, {}, {}), ({}, {}))
            self.assertEqual(laid(ROWS["no outputs"], width, {"x": 1, "y": 0}, {}), ({}, {}))

    def test_the_greatest_row(self):
        cell = read_cell(GREATEST)
        names = [name for name, word, names in cell[1]]
        row = ((cell[0], cell[1], tuple(names[-6:])), tuple(zip(names[-6:-2], cell[0][1:5])))
        self.check_row(random.Random("greatest"), row, WIDTHS)

    def test_rows_by_chance(self):
        chance = random.Random("laid")
        for step in range(200):
            row = any_row(chance, chance.randint(0, 6), chance.choice((1, 3, 8, 24)), chance.randint(0, 6),
                          chance.randint(0, 4))
            self.check_row(chance, row, (1, 2, chance.randint(3, 39), 40))

    def test_more_names_in_any_order(self):
        row = ROWS["adder"]
        plain = laid(row, 6, {"x": 33, "y": 62}, {"c": 1})
        more = {"m": 1, "y": 62, "": 5, "c": 0, "x": 33, "s": 9}
        self.assertEqual(self.check(row, 6, more, {"c": 1}), plain)
        self.assertEqual(self.check(row, 6, more, {"x": 0, "m": 0, "c": 1, "s": 1, "y": 1}), plain)
        self.assertEqual(self.check(row, 6, dict(reversed(more.items())), {"c": 1}), plain)

    def test_one_dict_handed_in_as_both(self):
        both = {"c": 1, "y": 62, "x": 33}
        self.assertEqual(laid(ROWS["adder"], 6, both, both), laid(ROWS["adder"], 6, {"x": 33, "y": 62}, {"c": 1}))
        self.assertEqual(both, {"c": 1, "y": 62, "x": 33})

    def test_what_is_told_is_the_askers_own(self):
        words, edges = {"x": 3, "y": 1}, {"c": 0}
        told = laid(ROWS["adder"], 2, words, edges)
        words["x"], edges["c"] = 0, 1
        self.assertEqual(told, ({"s": 0}, {"m": 1}))
        told[0]["s"], told[1]["m"] = 7, 7
        self.assertEqual(laid(ROWS["adder"], 2, {"x": 3, "y": 1}, {"c": 0}), ({"s": 0}, {"m": 1}))
        both = {"c": 0}
        told = laid(ROWS["no words in"], 1, both, both)
        told[1]["m"] = 5
        self.assertEqual(both, {"c": 0})


class Refusals(unittest.TestCase):
    def refused(self, row, words, edges, word):
        kept = (list(words.items()), list(edges.items()))
        for width in (1, 2, 40):
            with self.assertRaises(NoName) as caught:
                laid(row, width, words, edges)
            self.assertEqual(caught.exception.word, word)
        self.assertEqual((list(words.items()), list(edges.items())), kept)

    def test_each_name_that_lacks(self):
        for row in ROWS.values():
            ins, carried, outs, ends = sides(row)
            words, edges = dict.fromkeys(ins, 1), dict.fromkeys(carried, 0)
            for name in ins:
                self.refused(row, {other: 1 for other in ins if other != name}, edges, name)
            for name in carried:
                self.refused(row, words, {other: 0 for other in carried if other != name}, name)

    def test_of_several_the_first(self):
        # Words in the inputs' order, then edges in the order of along.
        row = (cell_of("in d y b x a c; p and x y; q or a b; r not c; s not d; out s p q r"),
               (("q", "c"), ("s", "a"), ("r", "d"), ("p", "b")))
        self.refused(row, {}, {}, "y")
        self.refused(row, {"x": 1}, {}, "y")
        self.refused(row, {"y": 1}, {}, "x")
        self.refused(row, {"y": 1, "x": 1}, {}, "c")
        self.refused(row, {"y": 1, "x": 1}, {"d": 1, "b": 1}, "c")
        self.refused(row, {"y": 1, "x": 1}, {"c": 0, "b": 1}, "a")
        self.refused(row, {"y": 1, "x": 1}, {"a": 0, "c": 1}, "d")
        self.refused(row, {"y": 1, "x": 1}, {"a": 0, "d": 0, "c": 1}, "b")

    def test_names_in_the_other_dict_don_t_count(self):
        row = ROWS["adder"]
        self.refused(row, {"c": 1, "x": 1}, {"y": 1, "c": 1}, "y")
        self.refused(row, {"c": 1, "x": 1, "y": 1}, {"x": 1, "y": 1}, "c")
        self.refused(row, {"c": 1, "x": 1, "y": 1, "m": 1}, {"m": 1, "s": 1}, "c")

    def test_a_name_on_which_nothing_hangs(self):
        self.refused(ROWS["no outputs"], {"x": 1}, {}, "y")
        row = (cell_of("in x c; m one; out m"), (("m", "c"),))
        self.refused(row, {"x": 1}, {}, "c")
        self.refused(row, {}, {"c": 1}, "x")


if __name__ == "__main__":
    unittest.main()
