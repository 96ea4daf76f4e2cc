"""Points [10] and [11]: rows judged, and papers looked at."""

import itertools
import random
import unittest

from cases import HOLDING, ROWS, cell_of, counter
from laidcells.rows.judged import judged, row_shown
from laidcells.rows.rows import claim_holds, laid
from plain import (any_edges, any_of, any_row, bit_tuples, claims_from, claims_shown, first_break, one_changed,
                   plain_holds, plain_shown, plain_sum, really_carried, sides, small_widths)


def from_nought(row):
    return {name: 0 for output, name in row[1]}


class Case(unittest.TestCase):
    def judge(self, row, claim):
        edges, weights = claim
        kept = (list(edges.items()), list(weights.items()))
        answer = judged(row, claim)
        self.assertEqual(judged(row, claim), answer)
        self.assertEqual((list(edges.items()), list(weights.items())), kept)
        self.assertIs(type(answer), tuple)
        return answer

    def check_shown(self, row, claim):
        answer = self.judge(row, claim)
        self.assertEqual((len(answer), answer[0]), (2, "shown"), (row, claim))
        paper = answer[1]
        self.assertIs(type(paper), tuple)
        self.assertEqual({type(state) for state in paper}, {tuple})
        self.assertIs(row_shown(row, claim, paper), True)
        self.assertTrue(plain_shown(row, claim, paper))
        for width in small_widths(row):
            self.assertTrue(plain_holds(row, claim, width))
        for width in (1, 2, 16, 17, 40):
            self.assertTrue(claim_holds(row, claim, width))
        return paper

    def check_broken(self, row, claim, bits=12):
        answer = self.judge(row, claim)
        self.assertEqual((len(answer), answer[0]), (4, "broken"), (row, claim))
        width, words, edges = answer[1:]
        ins, carried, outs, ends = sides(row)
        self.assertEqual((type(words), type(edges)), (dict, dict))
        self.assertEqual((set(words), set(edges)), (set(ins), set(carried)))
        self.assertEqual({type(number) for number in [width, *words.values(), *edges.values()]}, {int})
        self.assertTrue(all(0 <= word < 2 ** width for word in words.values()))
        self.assertTrue(all(claim[0][name] in (None, edges[name]) for name in carried))
        self.assertNotEqual(plain_sum(row, claim[1], width, words, edges), 0)
        for least in range(1, width):
            self.assertTrue(claim_holds(row, claim, least))
            if least * len(ins) + len(carried) <= bits:
                self.assertTrue(plain_holds(row, claim, least))
        self.assertFalse(claim_holds(row, claim, width))
        if width * len(ins) + len(carried) <= bits:
            self.assertEqual((words, edges), first_break(row, claim, width), (row, claim))
        self.assertFalse(row_shown(row, claim, tuple(bit_tuples(len(carried)))))
        return answer

    def check_either(self, row, claim):
        """By what is really carried it is known which of the two is to come."""
        paper = tuple(really_carried(row, claim[0]))
        if plain_shown(row, claim, paper):
            self.check_shown(row, claim)
            return True
        self.check_broken(row, claim)
        return False


class Judging(Case):
    def test_claims_that_hold_at_every_width(self):
        for name, weights in HOLDING:
            row = ROWS[name]
            self.check_shown(row, (any_of(row), weights))
            self.check_shown(row, (from_nought(row), weights))

    def test_one_weight_changed(self):
        for name, weights in HOLDING:
            row = ROWS[name]
            for thing, changed in one_changed(row, weights):
                self.check_either(row, (any_of(row), changed))
                self.check_either(row, (from_nought(row), changed))

    def test_an_adder(self):
        row = ROWS["adder"]
        weights = {"x": 1, "y": 1, "c": 1, "s": -1}
        for edge in (0, 1, None):
            self.assertEqual(set(self.check_shown(row, ({"c": edge}, weights))), {(0,), (1,)})
        # Without the carry: the first words whose sum is too great.
        self.assertEqual(judged(row, ({"c": 0}, {"x": 1, "y": 1, "s": -1})),
                         ("broken", 1, {"x": 1, "y": 1}, {"c": 0}))
        self.assertEqual(judged(row, ({"c": None}, {"x": 1, "y": 1, "s": -1})),
                         ("broken", 1, {"x": 1, "y": 1}, {"c": 0}))
        self.assertEqual(judged(row, ({"c": 1}, {"x": 1, "y": 1, "s": -1})),
                         ("broken", 1, {"x": 0, "y": 0}, {"c": 1}))
        self.assertEqual(judged(row, ({"c": 1}, {"x": 1, "y": 2, "c": 1, "s": -1})),
                         ("broken", 1, {"x": 0, "y": 1}, {"c": 1}))

    def test_what_is_never_carried_breaks_nothing(self):
        row = ROWS["triple from nought"]
        weights = {"x": 3, "c": 1, "d": 2, "s": -1}
        for d, c in itertools.product((0, 1, None), repeat=2):
            claim = ({"d": d, "c": c}, weights)
            if c == 0 or d == 0:
                # In the order of along: d, then c.
                self.assertNotIn((1, 1), self.check_shown(row, claim))
            else:
                self.assertEqual(self.check_broken(row, claim), ("broken", 1, {"x": 0}, {"d": 1, "c": 1}))

    def test_rows_without_words_or_anything_carried(self):
        self.assertEqual(judged(ROWS["empty"], ({}, {})), ("shown", ((),)))
        self.assertEqual(judged(ROWS["empty"], ({}, {"": 0})), ("shown", ((),)))
        self.assertEqual(judged(ROWS["empty"], ({}, {"": 3})), ("broken", 1, {}, {}))
        self.assertEqual(judged(ROWS["no inputs"], ({}, {"h": 1, "": -1})), ("shown", ((),)))
        self.assertEqual(judged(ROWS["no inputs"], ({}, {"h": 1})), ("broken", 1, {}, {}))
        self.assertEqual(judged(ROWS["no outputs"], ({}, {"x": 1})), ("broken", 1, {"x": 1, "y": 0}, {}))
        self.assertEqual(judged(ROWS["no outputs"], ({}, {"y": 1})), ("broken", 1, {"x": 0, "y": 1}, {}))
        self.check_shown(ROWS["everything"], ({"a": 0, "b": None}, {}))
        self.assertEqual(judged(ROWS["everything"], ({"a": None, "b": None}, {"a": 1})),
                         ("broken", 1, {}, {"a": 0, "b": 0}))

    def test_no_weights_are_always_shown(self):
        for row in ROWS.values():
            self.check_shown(row, (any_of(row), {}))
            self.check_shown(row, (from_nought(row), {"": 0}))

    def test_the_first_edges_are_by_the_order_of_along(self):
        cell = cell_of("in a b; p and a b; u or a a; v or b b; s odd a b; out s u v")
        for along, first in (((("u", "a"), ("v", "b")), {"a": 0, "b": 1}),
                             ((("v", "b"), ("u", "a")), {"b": 0, "a": 1})):
            self.assertEqual(judged((cell, along), ({"a": None, "b": None}, {"s": 1})), ("broken", 1, {}, first))

    def test_the_first_words_are_by_the_inputs_order(self):
        for inputs in itertools.permutations("xyz"):
            cell = (inputs, (("s", "or", ("x", "y", "z")),), ("s",))
            first = dict.fromkeys(inputs, 0) | {inputs[-1]: 1}
            self.assertEqual(judged((cell, ()), ({}, {"s": 1})), ("broken", 1, first, {}))

    def test_words_are_compared_as_numbers(self):
        # From the second place on s tells that x is unlike the place ahead: 1 and 2 break it, and 1 is the first.
        row = (cell_of("in x c v; m or x x; h one; t odd x c; s and t v; out s m h"), (("m", "c"), ("h", "v")))
        self.assertEqual(self.check_broken(row, (from_nought(row), {"s": 1})),
                         ("broken", 2, {"x": 1}, {"c": 0, "v": 0}))
        # Of two words the first is as little as can be, whatever the second is then.
        row = (cell_of("in x y c; m odd x y; s and c y; out s m"), (("m", "c"),))
        self.assertEqual(self.check_broken(row, ({"c": 0}, {"s": 1})), ("broken", 2, {"x": 0, "y": 3}, {"c": 0}))
        row = (cell_of("in x y c; m and x x; t or x y; s and c t; out s m"), (("m", "c"),))
        self.assertEqual(self.check_broken(row, ({"c": 0}, {"s": 1})), ("broken", 2, {"x": 1, "y": 2}, {"c": 0}))

    def test_counters_break_late(self):
        for bits in (1, 2, 3, 4):
            width = 2 ** bits
            for words in (0, 1, 2):
                row = counter(bits, words)
                told = dict.fromkeys(sides(row)[0], 2 ** (width - 1) - 1)
                answer = self.check_broken(row, (from_nought(row), {"s": 1}), 16)
                self.assertEqual(answer, ("broken", width, told, from_nought(row)))
                row = counter(bits, words, "full and on")
                told = dict.fromkeys(sides(row)[0], 2 ** width - 1)
                answer = self.check_broken(row, (from_nought(row), {"s": 1}), 16)
                self.assertEqual(answer, ("broken", width, told, from_nought(row)))

    def test_a_counter_of_four_bits_by_all_words_of_its_width(self):
        row = counter(4, 1)
        claim = (from_nought(row), {"s": -1})
        self.check_broken(row, claim, 20)

    def test_a_counter_broken_by_words_of_several_ways(self):
        # Two words count where they are unlike: of x as little as can be.
        gates = "go odd x y; na odd a go; ka and a go; nb odd b ka; kb and b ka; nc odd c kb; kc and c kb; nd odd d kc"
        row = (cell_of(f"in x y a b c d; {gates}; f and a b c; s and f d; out s na nb nc nd"),
               (("nd", "d"), ("nc", "c"), ("nb", "b"), ("na", "a")))
        claim = (from_nought(row), {"s": 1})
        self.assertEqual(self.check_broken(row, claim),
                         ("broken", 16, {"x": 0, "y": 2 ** 15 - 1}, from_nought(row)))
        for d, c, b, a in bit_tuples(4):
            edges = {"a": a, "b": b, "c": c, "d": d}
            left = 15 - (8 * d + 4 * c + 2 * b + a)
            self.assertEqual(self.check_broken(row, (edges, {"s": 1})),
                             ("broken", left + 1, {"x": 0, "y": 2 ** left - 1}, edges))
        edges = {"a": None, "b": 0, "c": None, "d": 1}
        self.assertEqual(self.check_broken(row, (edges, {"s": 1})),
                         ("broken", 3, {"x": 0, "y": 3}, {"a": 1, "b": 0, "c": 1, "d": 1}))

    def test_claims_that_hold_at_some_widths_are_broken_at_the_least(self):
        row = (cell_of("in c; m not c; out m"), (("m", "c"),))
        self.assertEqual(judged(row, ({"c": 0}, {"c": 1})), ("broken", 1, {}, {"c": 0}))
        row = counter(2, 0)
        self.assertEqual(self.check_broken(row, (from_nought(row), {"b": 1}))[1], 2)

    def test_rows_by_chance(self):
        chance = random.Random("judged")
        seen = {True: 0, False: 0}
        for step in range(400):
            row = any_row(chance, chance.randint(0, 5), chance.choice((1, 2, 4, 9, 24)), chance.randint(1, 6),
                          chance.randint(0, 4))
            edges = any_edges(chance, row, chance.choice(((0, 1, None), (0, 0, 0, 1))))
            things = [""] + sum(sides(row)[:3], [])
            claims = [{thing: chance.randint(-1, 1) for thing in things}, {chance.choice(things): 1}]
            for weights in claims_shown(row, edges)[:2]:
                changed = chance.choice(things)
                claims += [weights, weights | {changed: weights[changed] + chance.choice((-1, 1, 3))}]
            for weights in claims:
                seen[self.check_either(row, (edges, weights))] += 1
        self.assertGreater(min(seen.values()), 200)

    def test_rows_by_chance_that_break_late(self):
        # The claims are right for what is carried at first, so that what comes later may break them.
        chance = random.Random("late")
        seen = {width: 0 for width in range(1, 17)}
        for step in range(500):
            row = any_row(chance, chance.randint(2, 6), chance.choice((4, 9, 24)), 6, chance.randint(1, 4))
            edges = any_edges(chance, row, (0, 1, 0, 1, 0, 1, None))
            states = really_carried(row, edges)
            for count in range(1, len(states)):
                for weights in claims_from(row, states[:count])[:1]:
                    if self.check_either(row, (edges, weights)) is False:
                        seen[judged(row, (edges, weights))[1]] += 1
        self.assertGreater(min(seen[2], seen[3], seen[4]), 0)

    def test_what_is_told_may_be_handed_on(self):
        row = ROWS["adder"]
        width, words, edges = judged(row, ({"c": None}, {"x": 1, "s": -1}))[1:]
        self.assertEqual(laid(row, width, words, edges), ({"s": 1}, {"m": 0}))

    def test_what_is_told_is_the_askers_own(self):
        claim = ({"c": 0}, {"x": 1, "y": 1, "s": -1})
        told = judged(ROWS["adder"], claim)
        told[2]["x"], told[3]["c"] = 17, 17
        told[3]["strange"] = 1
        self.assertEqual(judged(ROWS["adder"], claim), ("broken", 1, {"x": 1, "y": 1}, {"c": 0}))
        self.assertEqual(claim, ({"c": 0}, {"x": 1, "y": 1, "s": -1}))
        told = judged(ROWS["adder"], claim)
        claim[0]["c"] = 1
        self.assertEqual(told, ("broken", 1, {"x": 1, "y": 1}, {"c": 0}))


class Papers(Case):
    def look(self, row, claim, paper, let_by):
        kept = (list(claim[0].items()), list(claim[1].items()))
        for again in range(2):
            self.assertIs(row_shown(row, claim, paper), let_by, (row, claim, paper))
        self.assertEqual((list(claim[0].items()), list(claim[1].items())), kept)

    def check(self, row, claim, paper):
        let_by = plain_shown(row, claim, paper)
        self.look(row, claim, paper, let_by)
        if let_by:
            for width in small_widths(row, 6):
                self.assertTrue(plain_holds(row, claim, width))
            self.assertEqual(judged(row, claim)[0], "shown")
        return let_by

    def test_an_adders_papers(self):
        row = ROWS["adder"]
        for edge in (0, 1, None):
            claim = ({"c": edge}, {"x": 1, "y": 1, "c": 1, "s": -1})
            for paper in (((0,), (1,)), ((1,), (0,)), ((0,), (1,), (0,)), ((1,), (1,), (0,), (0,))):
                self.look(row, claim, paper, True)
            for paper in ((), ((),), ((0,),), ((1,),), ((0,), (0,)), ((0,), (1,), ()), ((0,), (1,), (0, 1)),
                          ((0, 0), (0, 1), (1, 0), (1, 1)), ((), (0,), (1,)), ((0, 0), (0,), (1,))):
                self.look(row, claim, paper, False)

    def test_a_tuple_too_few_too_many_and_all(self):
        row = ROWS["triple from nought"]
        claim = ({"d": 0, "c": 0}, {"x": 3, "c": 1, "d": 2, "s": -1})
        right = ((0, 0), (0, 1), (1, 0))
        for paper in itertools.permutations(right):
            self.look(row, claim, paper, True)
            self.look(row, claim, paper + paper, True)
            self.look(row, claim, paper[:2], False)
            for place in range(4):
                self.look(row, claim, paper[:place] + ((1, 1),) + paper[place:], False)
                self.look(row, claim, paper[:place] + (paper[0],) + paper[place:], True)
                for strange in ((), (0,), (1,), (0, 0, 0), (0, 1, 0, 1)):
                    self.look(row, claim, paper[:place] + (strange,) + paper[place:], False)

    def test_a_tuple_more_that_does_no_harm(self):
        # What comes to the same may be in it, though it is never carried.
        row = ROWS["double"]
        claim = ({"c": 0}, {})
        self.look(row, claim, ((0,), (1,)), True)
        row = (cell_of("in x c; m and x c; s odd x c; out m s"), (("m", "c"),))
        self.look(row, ({"c": 0}, {"x": 1, "c": 1, "s": -1}), ((0,),), True)
        self.look(row, ({"c": 0}, {"x": 1, "c": 1, "s": -1}), ((0,), (1,)), True)
        self.look(row, ({"c": 0}, {"x": 1, "s": -1}), ((0,),), True)
        self.look(row, ({"c": 0}, {"x": 1, "s": -1}), ((0,), (1,)), False)
        self.look(row, ({"c": 1}, {"x": 1, "c": 1, "s": -1}), ((0,),), False)
        self.look(row, ({"c": None}, {"x": 1, "c": 1, "s": -1}), ((0,),), False)

    def test_nothing_carried(self):
        for row, weights in ((ROWS["empty"], {}), (ROWS["nothing"], {"x": 1, "y": 1, "q": -1, "p": -2})):
            self.look(row, ({}, weights), ((),), True)
            self.look(row, ({}, weights), ((), ()), True)
            self.look(row, ({}, weights), (), False)
            self.look(row, ({}, weights), ((0,),), False)
            self.look(row, ({}, weights), ((), (1,)), False)
            self.look(row, ({}, weights | {"": 1}), ((),), False)

    def test_the_empty_paper_is_never_let_by(self):
        for row in ROWS.values():
            for edges in (any_of(row), from_nought(row)):
                self.look(row, (edges, {}), (), False)
                self.look(row, (edges, {}), tuple(bit_tuples(len(row[1]))), True)

    def test_a_break_at_the_edge_of_the_paper(self):
        # Each of the counter's sixteen tuples but one: edges 0, or what is carried on, lack.
        row = counter(4, 0)
        claim = (from_nought(row), {})
        states = tuple(bit_tuples(4))
        self.look(row, claim, states, True)
        for at in range(16):
            self.look(row, claim, states[:at] + states[at + 1:], False)

    def test_all_papers_of_rows_by_chance(self):
        chance = random.Random("papers")
        seen = {True: 0, False: 0}
        for step in range(120):
            row = any_row(chance, chance.randint(1, 4), chance.choice((2, 4, 9)), chance.randint(1, 4), 2)
            edges = any_edges(chance, row)
            states = list(bit_tuples(len(row[1])))
            for weights in [{}] + claims_shown(row, edges)[:2] + claims_shown(row, any_of(row))[:1]:
                for count in range(len(states) + 1):
                    for paper in itertools.combinations(states, count):
                        paper = tuple(chance.sample(paper, len(paper)))
                        seen[self.check(row, (edges, weights), paper)] += 1
                strange = tuple(states) + (tuple([0] * (len(row[1]) + 1)),)
                self.look(row, (edges, weights), strange, False)
        self.assertGreater(min(seen.values()), 200)

    def test_papers_of_four_bits_by_chance(self):
        chance = random.Random("four")
        for step in range(150):
            row = any_row(chance, chance.randint(4, 6), chance.choice((4, 9, 24)), chance.randint(4, 6), 4)
            edges = any_edges(chance, row)
            right = really_carried(row, edges)
            for weights in [{}] + claims_shown(row, edges)[:1]:
                self.check(row, (edges, weights), tuple(right))
                self.check(row, (edges, weights), tuple(right + right[::2]))
                self.check(row, (edges, weights), tuple(chance.sample(right, len(right) - 1)))
                self.check(row, (edges, weights), tuple(bit_tuples(len(row[1]))))
                self.check(row, (edges, weights), tuple(right + [chance.choice(list(bit_tuples(len(row[1]))))]))


if __name__ == "__main__":
    unittest.main()
