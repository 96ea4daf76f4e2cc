"""Points [13], [14] and [15]: claims for fields, papers looked at, and fields judged."""

import itertools
import random
import unittest

from cases import MULTIPLIER, MULTIPLIER_DOWN, PRODUCT, WAYS, carrier, cell_of
from laidcells.fields.fields import field_laid
from laidcells.fields.judged import field_judged, field_shown
from plain import (any_field, bit_tuples, closed_paper, field_claims, field_holds, field_papers, field_sides,
                   field_things, field_words, plain_field_judged, plain_field_shown, plain_field_sum, some_words)

SMALL = tuple(itertools.product((1, 2, 3), repeat=2))
BEYOND = ((4, 4), (1, 8), (8, 1), (5, 3), (8, 8))
NOUGHT = {"s": 0, "c": 0}
TIMES = {("a", "b"): 1, "s": 1, "c": 1}
FULL = (("s", (0, 1)), ("c", (0, 1)))

# Two bits that are always alike go to the right, e tells where they are not: no paper can say so.
ALIKE = (cell_of("in r a b; u odd r a; v odd r b; e odd a b; out e u v"), (("u", "a", 0, 1), ("v", "b", 0, 1)),
         ("r",), ())
# Places to the right are counted in a and b: the fourth tells s first.
FOURTH = (cell_of("in a b; u not a; v odd a b; s and a b; out s u v"), (("u", "a", 0, 1), ("v", "b", 0, 1)), (), ())


def from_nought(field):
    return dict.fromkeys(field_sides(field)[0], 0)


def all_edges(field):
    names = field_sides(field)[0]
    return [dict(zip(names, bits)) for bits in bit_tuples(len(names))]


def sum_told(field, claim, width, height, words):
    """The sum of [13] once more, by what the program's field_laid tells."""
    cell, along, rows, columns = field
    edges, weights = claim
    told = field_laid(field, width, height, words, edges)
    across, high = 2 ** width - 1, 2 ** height - 1
    total = weights.get("", 0) * across * high
    for one in rows:
        total += weights.get(one, 0) * words[one] * across
        total += sum(weights.get((one, other), 0) * words[one] * words[other] for other in columns)
    total += sum(weights.get(other, 0) * words[other] * high for other in columns)
    total += sum(weights.get(name, 0) * told[name] for name in field_sides(field)[1])
    for output, name, down, right in along:
        edge = sum(2 ** (i + j) * edges[name] for i in range(height) for j in range(width)
                   if not (0 <= i - down < height and 0 <= j - right < width))
        total += weights.get(name, 0) * (edge - 2 ** (down + right) * told[output])
    return total


def one_changed(field, weights):
    for thing in field_things(field):
        for change in (-1, 1):
            yield thing, weights | {thing: weights.get(thing, 0) + change}


class Case(unittest.TestCase):
    def unchanged(self, field, claim, asked):
        kept = (list(claim[0].items()), list(claim[1].items()))
        answer = asked()
        self.assertEqual(asked(), answer)
        self.assertEqual((list(claim[0].items()), list(claim[1].items())), kept)
        return answer

    def look(self, field, claim, paper, let_by=None):
        """Against a going through all bits; let by, the claim holds at small sizes and some beyond."""
        plain = plain_field_shown(field, claim, paper)
        answer = self.unchanged(field, claim, lambda: field_shown(field, claim, paper))
        self.assertIs(answer, plain, (field, claim, paper))
        if let_by is not None:
            self.assertIs(answer, let_by, (field, claim, paper))
        return answer

    def check_holds(self, field, claim, sizes=SMALL, beyond=BEYOND):
        for width, height in sizes:
            for words in field_words(field, width, height):
                self.assertEqual(sum_told(field, claim, width, height, words), 0)
        chance = random.Random("beyond")
        for width, height in beyond:
            for words in some_words(chance, field, width, height):
                self.assertEqual(sum_told(field, claim, width, height, words), 0)

    def judge(self, field, claim):
        answer = self.unchanged(field, claim, lambda: field_judged(field, claim))
        self.assertIs(type(answer), tuple)
        self.assertEqual(answer, plain_field_judged(field, claim), (field, claim))
        if answer[0] == "shown":
            self.assertEqual(len(answer), 2)
            self.assertIs(type(answer[1]), tuple)
            self.assertIs(field_shown(field, claim, answer[1]), True)
            # Each paper that is let by has all that is carried on from the edges.
            self.assertEqual(answer[1], closed_paper(field, claim[0]))
        elif answer[0] == "broken":
            width, height, words = answer[1:]
            self.assertIs(type(words), dict)
            self.assertEqual(set(words), set(field[2] + field[3]))
            self.assertEqual({type(number) for number in answer[1:3] + tuple(words.values())}, {int})
            self.assertNotEqual(sum_told(field, claim, width, height, words), 0)
        else:
            self.assertEqual(answer, ("open",))
        return answer


class Papers(Case):
    def test_a_multiplier(self):
        for field in (MULTIPLIER, MULTIPLIER_DOWN):
            for edges in all_edges(field):
                for paper in field_papers(field):
                    both = all(bits == (0, 1) for name, bits in paper)
                    self.look(field, (edges, TIMES), paper, both)
                self.check_holds(field, (edges, TIMES), SMALL[:5])

    def test_a_multiplier_with_one_weight_changed(self):
        for thing, weights in one_changed(MULTIPLIER, TIMES):
            for paper in field_papers(MULTIPLIER):
                self.look(MULTIPLIER, (NOUGHT, weights), paper, False)

    def test_the_greatest_weights(self):
        weights = {thing: 999999999 * weight for thing, weight in TIMES.items()}
        self.look(MULTIPLIER, (NOUGHT, weights), FULL, True)
        self.look(MULTIPLIER, (NOUGHT, weights | {"c": 999999998}), FULL, False)

    def test_edges_that_are_not_in_the_paper(self):
        # What is carried stays what it was: each paper that has the edge is right.
        for way in WAYS:
            field = (cell_of("in c; m or c c; n not c; out n m"), (("m", "c") + way,), (), ())
            for edge in (0, 1):
                for bits in ((0,), (1,), (0, 1)):
                    self.look(field, ({"c": edge}, {}), (("c", bits),), edge in bits)
                    self.look(field, ({"c": edge}, {"n": 1}), (("c", bits),), edge == 1 and bits == (1,))
                    worth = 2 ** sum(way)
                    weights = {"n": worth - 1, "c": -1, "": 1 - worth}
                    self.look(field, ({"c": edge}, weights), (("c", bits),), edge in bits)
                    # c alone counts at each place by what it gains on the way, where it is 1.
                    let_by = edge in bits and (worth == 1 or bits == (0,))
                    self.look(field, ({"c": edge}, weights | {"c": -2}), (("c", bits),), let_by)

    def test_a_bit_too_few_and_a_bit_too_many(self):
        # From an edge of 0 no 1 is ever carried; with 1 let in, the claim breaks.
        field = (cell_of("in r k c; m and r c; t odd r k; h and r k; e and c h; out e m t h"), (("m", "c", 1, 0),),
                 ("r",), ("k",))
        weights = {"r": 1, "k": 1, "t": -1, "h": -2, "e": 5}
        self.look(field, ({"c": 0}, weights), (("c", (0,)),), True)
        self.look(field, ({"c": 0}, weights), (("c", (0, 1)),), False)
        self.look(field, ({"c": 0}, weights), (("c", (1,)),), False)
        self.check_holds(field, ({"c": 0}, weights))
        self.look(field, ({"c": 1}, weights), (("c", (0, 1)),), False)
        weights = weights | {"e": 0}
        self.look(field, ({"c": 1}, weights), (("c", (0, 1)),), True)
        self.look(field, ({"c": 1}, weights), (("c", (1,)),), False)
        self.look(field, ({"c": 1}, weights), (("c", (0,)),), False)

    def test_what_is_carried_on_goes_to_its_own_input(self):
        # u is always 1, v always 0: each is carried to the other's place in the inputs' order.
        cell = cell_of("in a b r; u one; v nil; s odd a b; out s u v")
        for down, right in WAYS:
            field = (cell, (("v", "b", down, right), ("u", "a", 1, 0)), ("r",), ())
            claim = ({"a": 1, "b": 0}, {"s": 1, "": -1})
            for paper in field_papers(field):
                self.look(field, claim, paper, paper == (("b", (0,)), ("a", (1,))))

    def test_each_kind_of_along(self):
        for way in WAYS:
            field = carrier(way)
            # o counts 2 ** (down + right) times less than its weight: r + k + c and o have the same last bit.
            for weights in ({}, {"n": 1, "": -1}, {"n": 1, "": -1, "c": 1}, {"c": 1}, {("r", "k"): 1}):
                for edge in (0, 1):
                    for paper in field_papers(field):
                        self.look(field, ({"c": edge}, weights), paper)

    def test_each_thing_has_its_weight(self):
        # Each weight by itself, and then by what it is the same as.
        cell = cell_of("in r q k c; a and r k; b or q q; d or k k; h one; m or c c; n odd r q; out a b d h m n")
        for way in WAYS:
            field = (cell, (("m", "c") + way,), ("r", "q"), ("k",))
            worth = 2 ** sum(way)
            for edge in (0, 1):
                paper = (("c", (edge,)),)
                for thing in field_things(field):
                    zero = thing == "c" and (edge == 0 or worth == 1)
                    self.look(field, ({"c": edge}, {thing: 3}), paper, zero)
                for weights in ({("r", "k"): 2, "a": -2}, {"q": 1, "b": -1}, {"k": -7, "d": 7}, {"": 1, "h": -1},
                                {"c": 1, "h": edge * (worth - 1)}, {"c": 1, "": edge * (worth - 1)}):
                    claim = ({"c": edge}, weights)
                    self.look(field, claim, paper, True)
                    self.check_holds(field, claim, SMALL[:5])
                    for thing, changed in one_changed(field, weights):
                        zero = thing == "c" and (edge == 0 or worth == 1)
                        self.look(field, ({"c": edge}, changed), paper, zero)

    def test_rows_columns_and_along_empty(self):
        field = (cell_of("in; out"), (), (), ())
        self.look(field, ({}, {}), (), True)
        self.look(field, ({}, {"": 1}), (), False)
        field = (cell_of("in; h one; l nil; out l h"), (), (), ())
        self.look(field, ({}, {"h": 1, "": -1, "l": 9}), (), True)
        self.look(field, ({}, {"h": 1}), (), False)
        for rows, columns in (("rk", ""), ("", "rk"), ("r", "k")):
            field = (cell_of("in r k; p and r k; q odd r k; out q p"), (), tuple(rows), tuple(columns))
            weights = {"r": 1, "k": 1, "q": -1, "p": -2}
            self.look(field, ({}, weights), (), True)
            self.check_holds(field, ({}, weights))
            self.look(field, ({}, weights | {"p": -1}), (), False)
            self.look(field, ({}, weights | {"": 1}), (), False)
            # Only a row's name and a column's make a pair.
            if rows == "r":
                self.look(field, ({}, {("r", "k"): 1, "p": -1}), (), True)
                self.check_holds(field, ({}, {("r", "k"): 1, "p": -1}))

    def test_other_papers_show_nothing(self):
        claim = (NOUGHT, TIMES)
        self.assertIs(field_shown(MULTIPLIER, claim, FULL), True)
        for paper in ((), FULL[:1], FULL[1:], FULL[::-1], FULL + FULL, FULL + FULL[:1], (("s", ()), ("c", ()))):
            self.assertIs(field_shown(MULTIPLIER, claim, paper), False)

    def test_papers_of_fields_by_chance(self):
        chance = random.Random("field papers")
        seen = {True: 0, False: 0}
        for step in range(150):
            field = any_field(chance, chance.randint(0, 6), chance.choice((2, 4, 9, 24)), chance.randint(0, 6),
                              chance.randint(0, 3))
            papers = field_papers(field)
            for edges in chance.sample(all_edges(field), min(2, len(all_edges(field)))):
                claims = [{}] + field_claims(field, closed_paper(field, edges))[:2]
                claims += field_claims(field, chance.choice(papers))[:1]
                for weights in claims:
                    let_by = [self.look(field, (edges, weights), paper) for paper in papers]
                    seen[True] += sum(let_by)
                    seen[False] += len(let_by) - sum(let_by)
                    if any(let_by) and len(field[2] + field[3]) < 3:
                        self.check_holds(field, (edges, weights), SMALL[:5], BEYOND[:4])
        self.assertGreater(min(seen.values()), 500)

    def test_what_becomes_of_the_dicts_later_does_not_matter(self):
        edges, weights = dict(NOUGHT), dict(TIMES)
        self.look(MULTIPLIER, (edges, weights), FULL, True)
        weights["c"] = 2
        self.look(MULTIPLIER, (edges, weights), FULL, False)
        weights["c"] = 1
        edges["c"] = 1
        self.look(MULTIPLIER, (edges, weights), FULL, True)
        self.look(MULTIPLIER, (edges, weights), (("s", (0, 1)), ("c", (0,))), False)


class Judging(Case):
    def test_a_multiplier_is_shown(self):
        for edges in all_edges(MULTIPLIER):
            self.assertEqual(self.judge(MULTIPLIER, (edges, TIMES)), ("shown", FULL))
            self.assertEqual(self.judge(MULTIPLIER_DOWN, (edges, TIMES)), ("shown", FULL[::-1]))

    def test_a_multiplier_with_one_weight_changed(self):
        for field in (MULTIPLIER, MULTIPLIER_DOWN):
            for thing, weights in one_changed(field, TIMES):
                self.assertEqual(self.judge(field, (NOUGHT, weights))[0], "broken")

    def test_a_multiplier_by_hand(self):
        # The first words of the first size: 1 times 1, where nothing is carried yet.
        self.assertEqual(field_judged(MULTIPLIER, (NOUGHT, TIMES | {("a", "b"): 2})),
                         ("broken", 1, 1, {"a": 1, "b": 1}))
        self.assertEqual(field_judged(MULTIPLIER, (NOUGHT, TIMES | {"": 1})), ("broken", 1, 1, {"a": 0, "b": 0}))
        self.assertEqual(field_judged(MULTIPLIER, (NOUGHT, TIMES | {"a": 1})), ("broken", 1, 1, {"a": 1, "b": 0}))
        self.assertEqual(field_judged(MULTIPLIER, (NOUGHT, TIMES | {"b": 1})), ("broken", 1, 1, {"a": 0, "b": 1}))
        # A carry is first lost at (1, 0), which has a 1 of its own and one from (0, 1).
        wrong = (PRODUCT[0], PRODUCT[1][:2] + (("m", "and", ("s", "c", "p")),), PRODUCT[2])
        self.assertEqual(self.judge((wrong,) + MULTIPLIER[1:], (NOUGHT, TIMES)),
                         ("broken", 2, 2, {"a": 3, "b": 3}))
        # A carry that is lost of s and c alone takes 3 and 3.
        wrong = cell_of("in a b s c; p and a b; t odd p s c; q or s c; m and p q; out t m")
        self.assertEqual(self.judge((wrong,) + MULTIPLIER[1:], (NOUGHT, TIMES)),
                         ("broken", 3, 3, {"a": 7, "b": 5}))

    def test_sizes_by_width_and_height_together_then_by_width(self):
        # s tells the third column, or the third row: the first size that has one breaks the claim.
        cell = cell_of("in c d; h one; m or c c; s or d d; out s h m")
        for way, size in (((0, 1), (3, 1)), ((1, 0), (1, 3))):
            field = (cell, (("h", "c") + way, ("m", "d") + way), (), ())
            self.assertEqual(self.judge(field, (from_nought(field), {"s": 1})), ("broken",) + size + ({},))
            self.assertEqual(self.judge(field, (from_nought(field), {"": 1})), ("broken", 1, 1, {}))
        cell = cell_of("in c; h one; s or c c; out h s")
        for way, size in (((0, 1), (2, 1)), ((1, 0), (1, 2)), ((1, 1), (2, 2)), ((1, -1), (2, 2))):
            self.assertEqual(self.judge((cell, (("h", "c") + way,), (), ()), ({"c": 0}, {"s": 1})),
                             ("broken",) + size + ({},))
        # Both the second row and the second column break it: 1 wide and 2 high comes first.
        cell = cell_of("in c d; h one; k one; s or c d; out h k s")
        field = (cell, (("h", "c", 0, 1), ("k", "d", 1, 0)), (), ())
        self.assertEqual(self.judge(field, (from_nought(field), {"s": 1})), ("broken", 1, 2, {}))
        # 1 wide and 3 high comes ahead of 2 and 2, and that ahead of 3 and 1.
        cell = cell_of("in a b c; h one; m or a a; s or b c; k one; out h k m s")
        field = (cell, (("h", "a", 1, 0), ("m", "b", 1, 0), ("k", "c", 1, 1)), (), ())
        self.assertEqual(self.judge(field, (from_nought(field), {"s": 1})), ("broken", 1, 3, {}))
        field = (cell, (("h", "a", 0, 1), ("m", "b", 0, 1), ("k", "c", 1, 1)), (), ())
        self.assertEqual(self.judge(field, (from_nought(field), {"s": 1})), ("broken", 2, 2, {}))

    def test_each_size_is_the_first_of_some_claim(self):
        # s tells the places that a way of one, of two and one, or of two steps down and right comes to.
        one = cell_of("in a; h one; s or a a; out h s")
        two = cell_of("in a b; h one; m or a a; s or b b; out h m s")
        cross = cell_of("in a b; h one; k one; s and a b; out h k s")
        three = cell_of("in a b c; h one; m or a a; k one; s and b c; out h m k s")
        for cell, ways, size in ((one, ((1, 0),), (1, 2)), (one, ((0, 1),), (2, 1)), (two, ((1, 0), (1, 0)), (1, 3)),
                                 (two, ((0, 1), (0, 1)), (3, 1)), (two, ((1, 1), (1, 1)), (3, 3)),
                                 (cross, ((1, 0), (0, 1)), (2, 2)), (three, ((1, 0), (1, 0), (0, 1)), (2, 3)),
                                 (three, ((0, 1), (0, 1), (1, 0)), (3, 2))):
            along = tuple((output, name) + way for output, name, way in zip(cell[2], cell[0], ways))
            field = (cell, along, (), ())
            self.assertEqual(self.judge(field, (from_nought(field), {"s": 1})), ("broken",) + size + ({},))
            # With words, too: the least ones that make s tell it.
            cell = (("x", "y") + cell[0], cell[1][:-1] + (("t",) + cell[1][-1][1:], ("s", "and", ("t", "x", "y"))),
                    cell[2])
            for names in (("x", "y"), ("y", "x")):
                field = (cell, along, names[:1], names[1:])
                words = {names[0]: 2 ** (size[1] - 1), names[1]: 2 ** (size[0] - 1)}
                self.assertEqual(self.judge(field, (from_nought(field), {"s": 1})), ("broken",) + size + (words,))

    def test_the_first_words(self):
        # Rows' names first, in their order and not the inputs', then columns'.
        cell = cell_of("in p q r; s or p q r; out s")
        for rows, columns in (("pqr", ""), ("rqp", ""), ("", "qrp"), ("q", "pr"), ("rp", "q"), ("rq", "p")):
            field = (cell, (), tuple(rows), tuple(columns))
            first = dict.fromkeys("pqr", 0) | {(rows + columns)[-1]: 1}
            self.assertEqual(self.judge(field, ({}, {"s": 1})), ("broken", 1, 1, first))
        # x of the first column and not of the second: 1 comes ahead of 2 and 3.
        field = (cell_of("in x c; m or x x; n not x; s and n c; out s m"), (("m", "c", 0, 1),), (), ("x",))
        self.assertEqual(self.judge(field, ({"c": 0}, {"s": 1})), ("broken", 2, 1, {"x": 1}))
        field = (cell_of("in x y c; m or y y; s and x c; out s m"), (("m", "c", 0, 1),), ("x",), ("y",))
        self.assertEqual(self.judge(field, ({"c": 0}, {"s": 1})), ("broken", 2, 1, {"x": 1, "y": 1}))

    def test_open(self):
        # Never broken, but no paper says so.
        self.assertEqual(self.judge(ALIKE, (from_nought(ALIKE), {"e": 1})), ("open",))
        self.check_holds(ALIKE, (from_nought(ALIKE), {"e": 1}))
        self.assertEqual(self.judge(ALIKE, ({"a": 0, "b": 1}, {"e": 1})), ("broken", 1, 1, {"r": 0}))
        self.assertEqual(self.judge(ALIKE, (from_nought(ALIKE), {})),
                         ("shown", (("a", (0, 1)), ("b", (0, 1)))))
        # Broken, but 4 wide at the least.
        claim = (from_nought(FOURTH), {"s": 1})
        self.assertEqual(self.judge(FOURTH, claim), ("open",))
        self.assertTrue(field_holds(FOURTH, claim, 3, 8))
        self.assertFalse(field_holds(FOURTH, claim, 4, 1))
        self.assertEqual(self.judge(FOURTH, ({"a": 1, "b": 0}, {"s": 1})), ("broken", 3, 1, {}))

    def test_shown_with_the_fewest_bits(self):
        # m is c again: one bit of the edge's is enough.
        for way in WAYS:
            field = (cell_of("in c r; m or c c; t and r r; out m t"), (("m", "c") + way,), ("r",), ())
            for edge in (0, 1):
                self.assertEqual(self.judge(field, ({"c": edge}, {"r": 1, "t": -1})), ("shown", (("c", (edge,)),)))
        cell = cell_of("in a b c r; u or a a; v and b r; w or c c; out u v w")
        along = (("u", "a", 1, 0), ("v", "b", 1, -1), ("w", "c", 0, 1))
        for a, b, c in bit_tuples(3):
            field = (cell, along, (), ("r",))
            self.assertEqual(self.judge(field, ({"a": a, "b": b, "c": c}, {})),
                             ("shown", (("a", (a,)), ("b", (0, 1) if b else (0,)), ("c", (c,)))))

    def test_rows_columns_and_along_empty(self):
        empty = (cell_of("in; out"), (), (), ())
        self.assertEqual(self.judge(empty, ({}, {})), ("shown", ()))
        self.assertEqual(self.judge(empty, ({}, {"": 1})), ("broken", 1, 1, {}))
        field = (cell_of("in r; s not r; out s"), (), ("r",), ())
        self.assertEqual(self.judge(field, ({}, {"r": 1, "s": 1, "": -1})), ("shown", ()))
        self.assertEqual(self.judge(field, ({}, {"r": 1, "s": 1})), ("broken", 1, 1, {"r": 0}))
        field = (field[0], (), (), ("r",))
        self.assertEqual(self.judge(field, ({}, {"r": 1, "s": 2, "": -2})), ("broken", 1, 1, {"r": 1}))

    def test_fields_by_chance(self):
        chance = random.Random("fields judged")
        seen = {"shown": 0, "broken": 0, "open": 0}
        for step in range(450):
            field = any_field(chance, chance.randint(0, 5), chance.choice((2, 4, 9, 24)), chance.randint(1, 6),
                              chance.randint(0, 3))
            if len(field[2] + field[3]) > 2:
                continue
            edges = {name: chance.randint(0, 1) for name in field_sides(field)[0]}
            things = field_things(field)
            claims = [{thing: chance.choice((0, 0, 1, -1)) for thing in things}]
            claims += field_claims(field, closed_paper(field, edges))[:2]
            # Right for a part of what is carried: it may break later, or never.
            claims += field_claims(field, tuple((name, (edges[name],)) for name in edges))[:3]
            claims += [weights | {thing: weights[thing] + 1} for weights in claims[1:2] for thing in things[-2:]]
            # What lacks has weight 0.
            claims += [{thing: weight for thing, weight in weights.items() if weight} for weights in claims]
            for weights in claims:
                seen[self.judge(field, (edges, weights))[0]] += 1
        self.assertGreater(min(seen["shown"], seen["broken"]), 150)
        self.assertGreater(seen["open"], 3)

    def test_fields_of_three_words_by_chance(self):
        chance = random.Random("three words")
        seen = {"shown": 0, "broken": 0, "open": 0}
        while sum(seen.values()) < 40:
            field = any_field(chance, 6, chance.choice((4, 9)), 5, 3)
            if len(field[2] + field[3]) != 3:
                continue
            edges = {name: chance.randint(0, 1) for name in field_sides(field)[0]}
            for weights in field_claims(field, tuple((name, (edges[name],)) for name in edges))[:2]:
                seen[self.judge(field, (edges, weights))[0]] += 1
        self.assertGreater(min(seen["shown"], seen["broken"]), 5)

    def test_what_is_told_may_be_handed_on_and_is_the_askers_own(self):
        claim = (NOUGHT, TIMES | {"a": 1})
        told = field_judged(MULTIPLIER, claim)
        self.assertEqual(field_laid(MULTIPLIER, told[1], told[2], told[3], claim[0]), {"t": 0, "m": 0})
        told[3]["a"] = 17
        told[3]["strange"] = 1
        self.assertEqual(field_judged(MULTIPLIER, claim), ("broken", 1, 1, {"a": 1, "b": 0}))
        self.assertEqual(claim, ({"s": 0, "c": 0}, {("a", "b"): 1, "s": 1, "c": 1, "a": 1}))
        edges = {"s": 0, "c": 0}
        told = field_judged(MULTIPLIER, (edges, claim[1]))
        edges["s"] = 1
        self.assertEqual(told, ("broken", 1, 1, {"a": 1, "b": 0}))

    def test_sums_are_those_of_the_second_reading(self):
        chance = random.Random("sums")
        for step in range(60):
            field = any_field(chance, chance.randint(0, 6), 9, 6, chance.randint(0, 3))
            edges = {name: chance.randint(0, 1) for name in field_sides(field)[0]}
            claim = (edges, {thing: chance.randint(-9, 9) for thing in field_things(field)})
            for width, height in SMALL + ((8, 3), (2, 7)):
                for words in some_words(chance, field, width, height):
                    self.assertEqual(sum_told(field, claim, width, height, words),
                                     plain_field_sum(field, claim, width, height, words))


if __name__ == "__main__":
    unittest.main()
