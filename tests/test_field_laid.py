"""Point [12]: fields laid at a width and height."""

import itertools
import random
import unittest

from cases import MULTIPLIER, MULTIPLIER_DOWN, WAYS, carrier, cell_of
from laidcells.errors import NoName
from laidcells.fields.fields import field_laid
from plain import any_field, bit_tuples, plain_field, some_words

SIZES = tuple(itertools.product(range(1, 9), repeat=2))


class Laying(unittest.TestCase):
    def check(self, field, width, height, words, edges):
        kept = (list(words.items()), list(edges.items()))
        expected = plain_field(field, width, height, words, edges)
        for again in range(2):
            answer = field_laid(field, width, height, words, edges)
            self.assertIs(type(answer), dict)
            self.assertEqual(answer, expected, (field, width, height, words, edges))
            self.assertEqual({type(number) for number in answer.values()} - {int}, set())
            self.assertEqual((list(words.items()), list(edges.items())), kept)
        return answer

    def check_field(self, chance, field, sizes):
        carried = [name for output, name, down, right in field[1]]
        for width, height in sizes:
            for words in some_words(chance, field, width, height):
                for edges in (dict.fromkeys(carried, 0), {name: chance.randint(0, 1) for name in carried}):
                    self.check(field, width, height, words, edges)

    def test_a_multiplier(self):
        chance = random.Random("product")
        for field in (MULTIPLIER, MULTIPLIER_DOWN):
            for width, height in SIZES:
                for words in some_words(chance, field, width, height):
                    told = self.check(field, width, height, words, {"s": 0, "c": 0})
                    self.assertEqual(told["t"] + 2 * told["m"], words["a"] * words["b"])

    def test_a_multiplier_by_all_words(self):
        for width, height in ((1, 1), (1, 4), (4, 1), (2, 3), (3, 2), (3, 3)):
            for a, b in itertools.product(range(2 ** height), range(2 ** width)):
                for s, c in bit_tuples(2):
                    self.check(MULTIPLIER, width, height, {"a": a, "b": b}, {"s": s, "c": c})

    def test_each_way_of_carrying(self):
        chance = random.Random("ways")
        for way in WAYS:
            self.check_field(chance, carrier(way), SIZES)

    def test_two_and_three_ways_at_once(self):
        chance = random.Random("more ways")
        cell = cell_of("in r a b c; u odd r a b; v most a b c; w odd r b c; x and r a; out x w v u")
        for ways in itertools.product(WAYS, repeat=3):
            along = tuple((output, name) + way for output, name, way in zip("uvw", "bca", ways))
            self.check_field(chance, (cell, along, ("r",), ()), ((1, 1), (3, 2), (2, 4), (8, 8)))
            self.check_field(chance, (cell, along, (), ("r",)), ((1, 1), (3, 2), (2, 4), (8, 8)))
            field = (cell, along[:2], ("r",), ("a",))
            self.check_field(chance, field, ((1, 1), (1, 3), (5, 2), (2, 6), (8, 8)))

    def test_small_fields_by_hand(self):
        # Nothing but a bit that is carried: it goes out where its way leaves the field.
        cell = cell_of("in c; m or c c; n not c; out m n")
        for edge in (0, 1):
            self.assertEqual(field_laid((cell, (("m", "c", 0, 1),), (), ()), 3, 2, {}, {"c": edge}),
                             {"m": edge * (4 + 8), "n": (1 - edge) * 21})
            self.assertEqual(field_laid((cell, (("m", "c", 1, 0),), (), ()), 3, 2, {}, {"c": edge}),
                             {"m": edge * (2 + 4 + 8), "n": (1 - edge) * 21})
            self.assertEqual(field_laid((cell, (("m", "c", 1, 1),), (), ()), 3, 2, {}, {"c": edge}),
                             {"m": edge * (4 + 2 + 4 + 8), "n": (1 - edge) * 21})
            self.assertEqual(field_laid((cell, (("m", "c", 1, -1),), (), ()), 3, 2, {}, {"c": edge}),
                             {"m": edge * (1 + 2 + 4 + 8), "n": (1 - edge) * 21})

    def test_rows_have_bit_i_and_columns_bit_j(self):
        cell = cell_of("in r k; p or r r; q or k k; b and r k; out p q b")
        for width, height in SIZES:
            for r, k in ((1, 0), (0, 1), (2 ** height - 1, 2 ** width - 1), (2 ** (height - 1), 2 ** (width - 1))):
                told = {"p": r * (2 ** width - 1), "q": k * (2 ** height - 1), "b": r * k}
                self.assertEqual(field_laid((cell, (), ("r",), ("k",)), width, height, {"r": r, "k": k}, {}), told)

    def test_an_edge_is_taken_all_along_its_side(self):
        # Of one row the first place alone, or all, have an edge; c is told as it is.
        cell = cell_of("in c; t or c c; m nil; out t m")
        for width, height in SIZES:
            row, column, whole = 2 ** width - 1, 2 ** height - 1, (2 ** width - 1) * (2 ** height - 1)
            inner = (2 ** (width - 1) - 1) * (2 ** (height - 1) - 1)
            for way, told in (((0, 1), column), ((1, 0), row), ((1, 1), whole - 4 * inner),
                              ((1, -1), row + 2 ** (width - 1) * (column - 1))):
                field = (cell, (("m", "c") + way,), (), ())
                self.assertEqual(field_laid(field, width, height, {}, {"c": 1}), {"t": told, "m": 0})
                self.assertEqual(field_laid(field, width, height, {}, {"c": 0}), {"t": 0, "m": 0})

    def test_rows_columns_and_along_empty(self):
        for width, height in SIZES:
            whole = (2 ** width - 1) * (2 ** height - 1)
            self.assertEqual(field_laid((cell_of("in; out"), (), (), ()), width, height, {}, {}), {})
            field = (cell_of("in; h one; l nil; out l h"), (), (), ())
            self.assertEqual(field_laid(field, width, height, {}, {}), {"h": whole, "l": 0})
            field = (cell_of("in r; out"), (), ("r",), ())
            self.assertEqual(field_laid(field, width, height, {"r": 1}, {}), {})

    def test_three_names_of_rows_and_columns(self):
        chance = random.Random("three")
        cell = cell_of("in k r l a b c; t odd r k l; m most t a b; n odd t b c; o and a c r; p or t m; out p n m o")
        along = (("n", "b", 1, 0), ("m", "c", 1, -1), ("o", "a", 0, 1))
        for rows, columns in (("rkl", ""), ("", "lkr"), ("k", "rl"), ("lr", "k")):
            self.check_field(chance, (cell, along, tuple(rows), tuple(columns)), SIZES)

    def test_fields_by_chance(self):
        chance = random.Random("fields")
        for step in range(300):
            field = any_field(chance, chance.randint(0, 6), chance.choice((1, 3, 8, 24)), chance.randint(0, 6),
                              chance.randint(0, 3))
            self.check_field(chance, field, chance.sample(SIZES, 2))

    def test_more_names_in_the_dicts_and_one_dict_as_both(self):
        plain = field_laid(MULTIPLIER, 3, 4, {"a": 13, "b": 5}, {"s": 1, "c": 0})
        more = {"s": 1, "m": 7, "b": 5, "": 3, "c": 0, "t": 1, "a": 13}
        self.assertEqual(self.check(MULTIPLIER, 3, 4, more, {"s": 1, "c": 0}), plain)
        self.assertEqual(self.check(MULTIPLIER, 3, 4, {"b": 5, "a": 13}, more), plain)
        self.assertEqual(self.check(MULTIPLIER, 3, 4, more, more), plain)

    def test_what_is_told_is_the_askers_own(self):
        words, edges = {"a": 3, "b": 3}, {"s": 0, "c": 0}
        told = field_laid(MULTIPLIER, 2, 2, words, edges)
        before = dict(told)
        words["a"], edges["s"] = 0, 1
        self.assertEqual(told, before)
        told["t"] = 1000
        self.assertEqual(field_laid(MULTIPLIER, 2, 2, {"a": 3, "b": 3}, {"s": 0, "c": 0}), before)


class Refusals(unittest.TestCase):
    def refused(self, field, words, edges, word):
        kept = (list(words.items()), list(edges.items()))
        for width, height in ((1, 1), (1, 8), (8, 1), (3, 2)):
            with self.assertRaises(NoName) as caught:
                field_laid(field, width, height, words, edges)
            self.assertEqual(caught.exception.word, word)
        self.assertEqual((list(words.items()), list(edges.items())), kept)

    def test_of_several_the_first(self):
        # Rows' names, columns', then edges, each in their own order and not the inputs'.
        cell = cell_of("in a b c p q r; u and a p; v or b q; w odd c r; out u v w")
        field = (cell, (("v", "c", 1, 0), ("u", "a", 0, 1), ("w", "b", 1, -1)), ("r", "p"), ("q",))
        full = {"r": 1, "p": 1, "q": 1}
        self.refused(field, {}, {}, "r")
        self.refused(field, {"p": 1, "q": 1}, {}, "r")
        self.refused(field, {"r": 1}, {}, "p")
        self.refused(field, {"r": 1, "p": 0}, {}, "q")
        self.refused(field, full, {}, "c")
        self.refused(field, full, {"a": 0, "b": 1}, "c")
        self.refused(field, full, {"c": 0}, "a")
        self.refused(field, full, {"c": 0, "a": 0}, "b")
        field = (cell, field[1], (), ("q", "r", "p"))
        self.refused(field, {"p": 1}, {}, "q")
        self.refused(field, {"q": 1}, {}, "r")

    def test_names_in_the_other_dict_don_t_count(self):
        self.refused(MULTIPLIER, {"b": 1, "s": 1, "c": 1}, {"a": 1, "s": 1, "c": 1}, "a")
        self.refused(MULTIPLIER, {"a": 1, "s": 1, "c": 1}, {"b": 1, "s": 1, "c": 1}, "b")
        self.refused(MULTIPLIER, {"a": 1, "b": 1, "s": 1, "t": 1}, {"c": 1, "t": 1, "m": 1}, "s")
        self.refused(MULTIPLIER, {"a": 1, "b": 1, "s": 1, "c": 1}, {"s": 1, "t": 1, "m": 1}, "c")

    def test_a_name_on_which_nothing_hangs(self):
        field = (cell_of("in r k c; m one; out m"), (("m", "c", 1, 1),), ("r",), ("k",))
        self.refused(field, {"k": 1}, {"c": 0}, "r")
        self.refused(field, {"r": 1}, {"c": 0}, "k")
        self.refused(field, {"r": 1, "k": 1}, {}, "c")


if __name__ == "__main__":
    unittest.main()
