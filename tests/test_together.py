"""Points [17] and [18]: rows laid together, and their claims."""

import random
import unittest

from cases import HOLDING, ROWS, cell_of, row_of
from laidcells.errors import NoCell, NoClaim, NoName
from laidcells.rows.judged import judged
from laidcells.rows.rows import claim_holds, laid
from laidcells.rows.together import claims_together, rows_together
from plain import (any_edges, any_of, any_row, bit_tuples, claims_shown, plain_laid, plain_sum, sides)

ADDER, LESS, NOTHING = ROWS["adder"], ROWS["less"], ROWS["nothing"]
SUM = ({"c": None}, {"x": 1, "y": 1, "c": 1, "s": -1})
REST = ({"c": None}, {"x": 1, "y": -1, "c": -1, "s": -1})


def turned(row, letter, pairs=()):
    """(old name, new name) for each name of a row's cell."""
    taken = {name: "a" + output for output, name in pairs}
    names = list(row[0][0]) + [name for name, word, names in row[0][1]]
    return {name: taken.get(name, letter + name) for name in names}


def one_by_one(one, other, pairs, width, words, edges):
    """What the two rows tell one behind the other, under the names that they get."""
    first, second = turned(one, "a"), turned(other, "b", pairs)
    told, ends = plain_laid(one, width, {name: words[first[name]] for name in sides(one)[0]},
                            {name: edges[first[name]] for name in sides(one)[1]})
    handed = {name: told.pop(output) for output, name in pairs}
    handed.update({name: words[second[name]] for name in sides(other)[0] if name not in handed})
    more, more_ends = plain_laid(other, width, handed, {name: edges[second[name]] for name in sides(other)[1]})
    return ({first[name]: word for name, word in told.items()} | {second[name]: word for name, word in more.items()},
            {first[name]: bit for name, bit in ends.items()} | {second[name]: bit for name, bit in more_ends.items()})


def any_two(chance, most=3):
    """Two rows, and pairs that are let."""
    one, other = [any_row(chance, chance.choice((0, 1, 2, 3, 3)), chance.randint(1, 12), chance.choice((1, 2, 3, 3)),
                          chance.choice((0, 0, 1, 2))) for step in range(2)]
    outs, ins = sides(one)[2], sides(other)[0]
    count = min(chance.randint(0, most), len(outs), len(ins))
    return one, other, tuple(zip(chance.sample(outs, count), chance.sample(ins, count)))


class Rows(unittest.TestCase):
    def test_none(self):
        self.assertEqual(rows_together(ADDER, ADDER, ()), (
            (("ax", "ay", "ac", "bx", "by", "bc"),
             (("as", "odd", ("ax", "ay", "ac")), ("am", "most", ("ax", "ay", "ac")),
              ("bs", "odd", ("bx", "by", "bc")), ("bm", "most", ("bx", "by", "bc"))),
             ("as", "am", "bs", "bm")),
            (("am", "ac"), ("bm", "bc"))))

    def test_one(self):
        self.assertEqual(rows_together(ADDER, LESS, (("s", "y"),)), (
            (("ax", "ay", "ac", "bx", "bc"),
             (("as", "odd", ("ax", "ay", "ac")), ("am", "most", ("ax", "ay", "ac")),
              ("bs", "odd", ("bx", "as", "bc")), ("bn", "not", ("bx",)), ("bm", "most", ("bn", "as", "bc"))),
             ("am", "bs", "bm")),
            (("am", "ac"), ("bm", "bc"))))
        self.assertEqual(rows_together(ADDER, LESS, (("s", "x"),)), (
            (("ax", "ay", "ac", "by", "bc"),
             (("as", "odd", ("ax", "ay", "ac")), ("am", "most", ("ax", "ay", "ac")),
              ("bs", "odd", ("as", "by", "bc")), ("bn", "not", ("as",)), ("bm", "most", ("bn", "by", "bc"))),
             ("am", "bs", "bm")),
            (("am", "ac"), ("bm", "bc"))))

    def test_several(self):
        # Outputs p, h, l go in, crossed; q and n stay, in the outputs' order.
        other = row_of("in u v w z; s odd u v w; k most z v u; t and w z; out t k s", "k>z")
        self.assertEqual(rows_together(NOTHING, other, (("h", "w"), ("p", "u"), ("l", "v"))), (
            (("ax", "ay", "bz"),
             (("ap", "and", ("ax", "ay")), ("aq", "odd", ("ax", "ay")), ("an", "not", ("ay",)), ("ah", "one", ()),
              ("al", "nil", ()),
              ("bs", "odd", ("ap", "al", "ah")), ("bk", "most", ("bz", "al", "ap")), ("bt", "and", ("ah", "bz"))),
             ("aq", "an", "bt", "bk", "bs")),
            (("bk", "bz"),)))

    def test_along_as_the_rows_have_it(self):
        row = rows_together(ROWS["three"], ROWS["count"], (("s", "x"),))
        self.assertEqual(row[1], (("ak", "ab"), ("am", "aa"), ("bm", "bc")))
        self.assertEqual(row[0][0], ("ax", "ay", "az", "aa", "ab", "bc"))
        self.assertEqual(row[0][2], ("ak", "am", "bm", "bs"))

    def test_empty_rows(self):
        empty = ROWS["empty"]
        self.assertEqual(rows_together(empty, empty, ()), (((), (), ()), ()))
        self.assertEqual(rows_together(empty, row_of("in x; n not x; out n", ""), ()),
                         ((("bx",), (("bn", "not", ("bx",)),), ("bn",)), ()))

    def test_a_row_and_itself(self):
        row = rows_together(ADDER, ADDER, (("s", "y"),))
        self.assertEqual(row[0][0], ("ax", "ay", "ac", "bx", "bc"))
        for x, y, z in ((1, 2, 3), (100, 200, 300), (511, 511, 1)):
            told = laid(row, 9, {"ax": x, "ay": y, "bx": z}, {"ac": 0, "bc": 0})
            self.assertEqual(told[0], {"bs": (x + y + z) % 512})

    def test_laid_it_tells_what_the_two_tell(self):
        chance = random.Random("together")
        seen = {0: 0, 1: 0, 2: 0, 3: 0}
        for step in range(800):
            one, other, pairs = any_two(chance)
            row = rows_together(one, other, pairs)
            self.assertEqual(rows_together(one, other, pairs), row)
            seen[len(pairs)] += 1
            for width in (1, 2, chance.randint(3, 39), 40):
                words = {name: chance.randint(0, 2 ** width - 1) for name in sides(row)[0]}
                edges = {name: chance.randint(0, 1) for name in sides(row)[1]}
                self.assertEqual(laid(row, width, words, edges),
                                 one_by_one(one, other, pairs, width, words, edges))
        self.assertGreater(min(seen.values()), 5)

    def test_it_is_a_row(self):
        # It may be laid together again; what comes is nothing but tuples and texts.
        chance = random.Random("again")
        for step in range(100):
            one, other, pairs = any_two(chance)
            cell, along = rows_together(one, other, pairs)
            self.assertEqual([type(part) for part in cell + (along, cell)], [tuple] * 5)
            self.assertTrue(all(type(gate) is tuple and type(gate[2]) is tuple for gate in cell[1]))
            self.assertTrue(all(type(pair) is tuple for pair in along))
            self.assertFalse(set(cell[0]) & set(cell[2]))
        row = rows_together(rows_together(ROWS["count"], ROWS["count"], (("s", "x"),)), ROWS["count"], (("bs", "x"),))
        self.assertEqual(row[0][0], ("aac", "aax", "abc", "bc"))
        told = laid(row, 8, {"aax": 100}, {"aac": 1, "abc": 1, "bc": 1})
        self.assertEqual(told[0], {"bs": 103})


class Refusals(unittest.TestCase):
    def no_name(self, one, other, pairs, word):
        claims = ((any_of(one), {}), (any_of(other), {}))
        for asked in (lambda: rows_together(one, other, pairs), lambda: claims_together(one, other, pairs, *claims)):
            with self.assertRaises(NoName) as caught:
                asked()
            self.assertEqual(caught.exception.word, word)

    def no_cell(self, one, other, pairs):
        # The claims would be refused, too, but behind it.
        claims = ((any_of(one), dict.fromkeys([output for output, name in pairs], 1)), (any_of(other), {}))
        for asked in (lambda: rows_together(one, other, pairs), lambda: claims_together(one, other, pairs, *claims)):
            with self.assertRaises(NoCell) as caught:
                asked()
            self.assertEqual(caught.exception.row, 0)

    def test_no_word_output(self):
        # Carried, a gate that is no output, an input, nothing, the other row's, the new name.
        other = row_of("in x y; p and x y; out p", "")
        for output in ("m", "n", "x", "c", "zz", "p", "as", "", "X1", "s "):
            self.no_name(LESS, other, ((output, "x"),), output)

    def test_no_word_input(self):
        one = row_of("in u v; p and u v; out p", "")
        for name in ("c", "s", "m", "n", "u", "p", "bx", "", "zz", "-"):
            self.no_name(one, LESS, (("p", name),), name)

    def test_the_output_first_pair_by_pair(self):
        one = row_of("in u v; p and u v; q or u v; r odd u v; out p q r", "")
        self.no_name(one, ADDER, (("zz", "yy"),), "zz")
        self.no_name(one, ADDER, (("p", "yy"), ("zz", "x")), "yy")
        self.no_name(one, ADDER, (("p", "x"), ("zz", "yy")), "zz")
        self.no_name(one, ADDER, (("p", "x"), ("q", "yy"), ("zz", "y")), "yy")

    def test_taken_already(self):
        one = row_of("in u v; p and u v; q or u v; r odd u v; out p q r", "")
        self.no_name(one, ADDER, (("p", "x"), ("p", "y")), "p")
        self.no_name(one, ADDER, (("p", "x"), ("q", "x")), "x")
        self.no_name(one, ADDER, (("p", "x"), ("p", "x")), "p")
        self.no_name(one, ADDER, (("p", "x"), ("q", "y"), ("r", "x")), "x")
        self.no_name(one, ADDER, (("p", "x"), ("q", "y"), ("q", "c")), "q")
        self.no_name(one, ADDER, (("p", "x"), ("p", "zz")), "p")
        # The same name on both sides is two names.
        turn, back = row_of("in p; q not p; out q", ""), row_of("in q; p not q; out p", "")
        self.assertEqual(rows_together(turn, back, (("q", "q"),)),
                         ((("ap",), (("aq", "not", ("ap",)), ("bp", "not", ("aq",))), ("bp",)), ()))

    def test_a_name_of_nine_letters(self):
        plain = row_of("in x; n not x; out n", "")
        for text in ("in abcdefgh; n not abcdefgh; out n", "in x; abcdefgh not x; out abcdefgh",
                     "in x; abcdefgh not x; n not x; out n"):
            row = row_of(text, "")
            self.no_cell(row, plain, ())
            self.no_cell(plain, row, ())
            self.no_cell(row, plain, ((row[0][2][0], "x"),))
        # Of seven letters eight come.
        row = rows_together(row_of("in abcdefg; n not abcdefg; out n", ""), plain, ())
        self.assertEqual(row[0][0], ("aabcdefg", "bx"))
        row = rows_together(plain, row_of("in x; abcdefg not x; out abcdefg", ""), ())
        self.assertEqual(row[0][2], ("an", "babcdefg"))

    def test_an_input_that_is_taken_leaves_its_name(self):
        other = row_of("in abcdefgh; n not abcdefgh; out n", "")
        row = rows_together(row_of("in x; n not x; out n", ""), other, (("n", "abcdefgh"),))
        self.assertEqual(row, ((("ax",), (("an", "not", ("ax",)), ("bn", "not", ("an",))), ("bn",)), ()))

    def test_a_name_that_is_a_word(self):
        plain = row_of("in x; n not x; out n", "")
        for text in ("in nd; n not nd; out n", "in x; nd not x; out nd", "in x; nd not x; n not x; out n"):
            row = row_of(text, "")
            self.no_cell(row, plain, ())
            self.no_cell(row, plain, ((row[0][2][0], "x"),))
            rows_together(plain, row, ())
        # Of no other name comes a word: a and b ahead of all that are near one.
        for name in ("n", "r", "dd", "ost", "ot", "ne", "il", "ut", "nda", "an"):
            row = row_of(f"in x; {name} not x; out {name}", "")
            self.assertEqual(rows_together(row, row, ())[0][2], ("a" + name, "b" + name))

    def test_too_many(self):
        def sized(inputs, outputs, gates, pairs):
            ins, names = list("abcdef")[:inputs], ["g" + sign for sign in "abcdefghijklmnopqrstuvwxyz"[:gates]]
            text = f"in {' '.join(ins)}; " + "".join([f"{name} one; " for name in names])
            return row_of(text.strip() + " out " + " ".join(names[:outputs]),
                          " ".join([f"{name}>{goal}" for name, goal in zip(names[:pairs], ins)]))

        for one, other in (((3, 1, 1, 0), (3, 1, 1, 0)), ((6, 1, 1, 0), (0, 1, 1, 0)), ((1, 3, 3, 0), (1, 3, 3, 0)),
                           ((0, 0, 0, 0), (0, 6, 6, 0)), ((1, 1, 12, 0), (1, 1, 12, 0)), ((1, 1, 24, 0), (1, 0, 0, 0)),
                           ((3, 3, 3, 2), (3, 3, 3, 2)), ((4, 4, 4, 4), (1, 1, 1, 0)), ((6, 6, 24, 4), (0, 0, 0, 0))):
            rows_together(sized(*one), sized(*other), ())
        for one, other in (((3, 1, 1, 0), (4, 1, 1, 0)), ((6, 1, 1, 0), (1, 1, 1, 0)), ((1, 3, 3, 0), (1, 4, 4, 0)),
                           ((0, 1, 1, 0), (0, 6, 6, 0)), ((1, 1, 12, 0), (1, 1, 13, 0)), ((1, 1, 24, 0), (1, 1, 1, 0)),
                           ((3, 3, 3, 3), (3, 3, 3, 2)), ((4, 4, 4, 4), (1, 1, 1, 1))):
            self.no_cell(sized(*one), sized(*other), ())
            self.no_cell(sized(*other), sized(*one), ())
        # What is laid together does not count.
        self.no_cell(sized(4, 3, 3, 0), sized(3, 3, 3, 0), ())
        self.assertEqual(len(rows_together(sized(4, 3, 3, 0), sized(3, 3, 3, 0), (("ga", "b"),))[0][0]), 6)
        self.no_cell(sized(1, 4, 4, 0), sized(1, 3, 3, 0), ())
        self.assertEqual(len(rows_together(sized(1, 4, 4, 0), sized(1, 3, 3, 0), (("gd", "a"),))[0][2]), 6)

    def test_no_name_ahead_of_no_cell(self):
        long = row_of("in abcdefgh; nd not abcdefgh; out nd", "")
        self.no_name(long, long, (("zz", "yy"),), "zz")
        self.no_name(long, long, (("nd", "yy"),), "yy")
        self.no_name(long, long, (("nd", "abcdefgh"), ("nd", "abcdefgh")), "nd")
        self.no_cell(long, long, (("nd", "abcdefgh"),))
        many = row_of("in a b c d e f; n not a; out n", "")
        self.no_name(many, many, (("n", "g"),), "g")
        self.no_cell(many, many, ())


class Claims(unittest.TestCase):
    def join(self, one, other, pairs, claim_one, claim_other):
        """The claim, without weights of 0; what it must be is told by the names."""
        dicts = claim_one + claim_other
        kept = [list(part.items()) for part in dicts]
        claim = claims_together(one, other, pairs, claim_one, claim_other)
        self.assertEqual(claims_together(one, other, pairs, claim_one, claim_other), claim)
        self.assertEqual([list(part.items()) for part in dicts], kept)
        self.assertEqual([type(claim), type(claim[0]), type(claim[1])], [tuple, dict, dict])
        row = rows_together(one, other, pairs)
        ins, carried, outs, ends = sides(row)
        self.assertEqual(set(claim[0]), set(carried))
        self.assertLessEqual(set(claim[1]), set(ins + carried + outs + [""]))
        first, second = turned(one, "a"), turned(other, "b", pairs)
        self.assertEqual(claim[0], {first[name]: bit for name, bit in claim_one[0].items()}
                         | {second[name]: bit for name, bit in claim_other[0].items()})
        return row, (claim[0], {thing: weight for thing, weight in claim[1].items() if weight})

    def test_by_hand(self):
        row, claim = self.join(ADDER, ADDER, (("s", "y"),), SUM, SUM)
        self.assertEqual(claim, ({"ac": None, "bc": None},
                                 {"ax": 1, "ay": 1, "ac": 1, "bx": 1, "bc": 1, "bs": -1}))
        self.assertEqual(judged(row, claim)[0], "shown")
        less = (REST[0], {name: -weight for name, weight in REST[1].items()})
        row, claim = self.join(ADDER, LESS, (("s", "x"),), ({"c": 0}, SUM[1]), REST)
        self.assertEqual(claim, ({"ac": 0, "bc": None},
                                 {"ax": 1, "ay": 1, "ac": 1, "by": -1, "bc": -1, "bs": -1}))
        self.assertEqual(judged(row, claim)[0], "shown")
        row, claim = self.join(ADDER, LESS, (("s", "y"),), ({"c": 1}, SUM[1]), ({"c": 0}, less[1]))
        self.assertEqual(claim, ({"ac": 1, "bc": 0},
                                 {"ax": 1, "ay": 1, "ac": 1, "bx": -1, "bc": 1, "bs": 1}))
        self.assertEqual(judged(row, claim)[0], "shown")

    def test_none(self):
        row, claim = self.join(ADDER, LESS, (), SUM, REST)
        self.assertEqual(claim, ({"ac": None, "bc": None}, {"ax": 1, "ay": 1, "ac": 1, "as": -1, "bx": 1, "by": -1,
                                                            "bc": -1, "bs": -1}))
        self.assertEqual(judged(row, claim)[0], "shown")

    def test_the_number_itself_is_added(self):
        turn, fixed = row_of("in y; n not y; out n", ""), ROWS["no inputs"]
        one = ({}, {"": 1, "y": -1, "n": -1})
        row, claim = self.join(turn, fixed, (), one, ({}, {"": 4, "h": -4}))
        self.assertEqual(claim, ({}, {"": 5, "ay": -1, "an": -1, "bh": -4}))
        self.assertEqual(judged(row, claim)[0], "shown")
        row, claim = self.join(turn, fixed, (), one, ({}, {"": -1, "h": 1}))
        self.assertEqual(claim, ({}, {"ay": -1, "an": -1, "bh": 1}))
        self.assertEqual(judged(row, claim)[0], "shown")
        self.assertEqual(self.join(turn, fixed, (), ({}, {}), ({}, {"": 2}))[1], ({}, {"": 2}))
        self.assertEqual(self.join(turn, fixed, (), ({}, {"": 2}), ({}, {}))[1], ({}, {"": 2}))

    def test_several_pairs(self):
        # x + y is q + 2 p: p goes in as both words of an adder, q stays.
        half = row_of("in x y; q odd x y; p and x y; r and y x; out q p r", "")
        row, claim = self.join(half, ADDER, (("p", "x"), ("r", "y")),
                               ({}, {"x": 1, "y": 1, "q": -1, "p": -1, "r": -1}), SUM)
        self.assertEqual(claim, ({"bc": None}, {"ax": 1, "ay": 1, "aq": -1, "bc": 1, "bs": -1}))
        self.assertEqual(judged(row, claim)[0], "shown")
        for p, r in ((-1, -2), (-2, -1), (0, -1), (-1, 0), (1, 1), (-2, 0)):
            with self.assertRaises(NoClaim):
                claims_together(half, ADDER, (("p", "x"), ("r", "y")),
                                ({}, {"x": 1, "y": 1, "q": -1, "p": p, "r": r}), SUM)

    def test_a_pairs_weights_must_come_to_0(self):
        pairs = (("s", "y"),)
        for weight in (-3, -1, 0, 1, 2, 999999999):
            claim = ({"c": None}, SUM[1] | {"s": weight})
            if weight == -1:
                self.join(ADDER, ADDER, pairs, claim, SUM)
            else:
                with self.assertRaises(NoClaim):
                    claims_together(ADDER, ADDER, pairs, claim, SUM)
        # What lacks counts 0: on either side, on both.
        lacking = ({"c": None}, {"x": 1})
        with self.assertRaises(NoClaim):
            claims_together(ADDER, ADDER, pairs, lacking, SUM)
        with self.assertRaises(NoClaim):
            claims_together(ADDER, ADDER, pairs, SUM, lacking)
        self.assertEqual(self.join(ADDER, ADDER, pairs, lacking, lacking)[1][1], {"ax": 1, "bx": 1})
        nought = ({"c": None}, {"x": 1, "s": 0, "y": 0})
        self.assertEqual(self.join(ADDER, ADDER, pairs, nought, nought)[1][1], {"ax": 1, "bx": 1})

    def test_nothing_is_told_of_what_is_gone(self):
        claim = claims_together(ADDER, ADDER, (("s", "y"),), SUM, SUM)
        for name in ("as", "by", "s", "y", "bs y"):
            self.assertNotIn(name, claim[1])

    def test_the_sum_is_that_of_both(self):
        # At any words the sum of what comes is the sum of the two: so it holds where both hold.
        chance = random.Random("sums")
        for step in range(150):
            one, other, pairs = any_two(chance)
            claims = []
            for row in (one, other):
                ins, carried, outs, ends = sides(row)
                claims.append((any_edges(chance, row),
                               {thing: chance.randint(-9, 9) for thing in [""] + ins + carried + outs}))
            for output, name in pairs:
                claims[1][1][name] = -claims[0][1][output]
            row, claim = self.join(one, other, pairs, *claims)
            width = chance.randint(1, 12)
            words = {name: chance.randint(0, 2 ** width - 1) for name in sides(row)[0]}
            edges = {name: chance.randint(0, 1) for name in sides(row)[1]}
            first, second = turned(one, "a"), turned(other, "b", pairs)
            told = plain_laid(one, width, {name: words[first[name]] for name in sides(one)[0]},
                              {name: edges[first[name]] for name in sides(one)[1]})[0]
            handed = {name: told[output] for output, name in pairs}
            handed.update({name: words[second[name]] for name in sides(other)[0] if name not in handed})
            total = plain_sum(one, claims[0][1], width, {name: words[first[name]] for name in sides(one)[0]},
                              {name: edges[first[name]] for name in sides(one)[1]})
            total += plain_sum(other, claims[1][1], width, handed,
                               {name: edges[second[name]] for name in sides(other)[1]})
            self.assertEqual(plain_sum(row, claim[1], width, words, edges), total)

    def test_both_shown_so_is_what_comes(self):
        chance = random.Random("shown")
        seen = {0: 0, 1: 0}
        for step in range(400):
            one, other, pairs = any_two(chance, 1)
            edges = any_edges(chance, one), any_edges(chance, other)
            for weights, more in zip(claims_shown(one, edges[0]), claims_shown(other, edges[1])):
                for output, name in pairs:
                    # Each so many times that the pair's weights come to 0.
                    out, into = weights[output], more[name]
                    weights = {thing: weight * into for thing, weight in weights.items()}
                    more = {thing: weight * -out for thing, weight in more.items()}
                claims = (edges[0], weights), (edges[1], more)
                self.assertEqual([judged(one, claims[0])[0], judged(other, claims[1])[0]], ["shown", "shown"])
                row, claim = self.join(one, other, pairs, *claims)
                self.assertEqual(judged(row, claim)[0], "shown")
                self.assertTrue(claim_holds(row, claim, 40))
                seen[len(pairs)] += 1
        self.assertGreater(min(seen.values()), 50)

    def test_holding_claims_one_beside_the_other(self):
        for name, weights in HOLDING:
            row = ROWS[name]
            for edges in (any_of(row), dict.fromkeys(any_of(row), 1)):
                if len(row[0][0]) < 6 and len(row[0][2]) < 5:
                    tail = row_of("in x; n not x; out n", "")
                    claim = ({}, {"x": 1, "n": 1, "": -1})
                    for two, claims in (((row, tail), ((edges, weights), claim)),
                                        ((tail, row), (claim, (edges, weights)))):
                        both, joined = self.join(*two, (), *claims)
                        self.assertEqual(judged(both, joined)[0], "shown")

    def test_what_is_told_is_the_askers_own(self):
        edges, weights = {"c": None}, dict(SUM[1])
        claim = claims_together(ADDER, ADDER, (("s", "y"),), (edges, weights), (edges, weights))
        kept = (dict(claim[0]), dict(claim[1]))
        edges["c"], weights["x"] = 1, 5
        self.assertEqual(claim, kept)
        claim[0]["ac"], claim[1]["ax"] = 0, 17
        self.assertEqual(claims_together(ADDER, ADDER, (("s", "y"),), SUM, SUM), kept)
        self.assertEqual(SUM, ({"c": None}, {"x": 1, "y": 1, "c": 1, "s": -1}))


class Refused(unittest.TestCase):
    def test_no_claim_is_the_last_refusal(self):
        wrong = ({"c": None}, {"s": 5})
        with self.assertRaises(NoName) as caught:
            claims_together(ADDER, ADDER, (("s", "y"), ("m", "x")), wrong, wrong)
        self.assertEqual(caught.exception.word, "m")
        long = (cell_of("in x y c; s odd x y c; abcdefgh most x y c; out s abcdefgh"), (("abcdefgh", "c"),))
        with self.assertRaises(NoCell) as caught:
            claims_together(ADDER, long, (("s", "y"),), wrong, SUM)
        self.assertEqual(caught.exception.row, 0)
        with self.assertRaises(NoClaim):
            claims_together(ADDER, ADDER, (("s", "y"),), wrong, SUM)

    def test_all_small_edges(self):
        # Whatever the edges, they are handed on as they are.
        for one, other in bit_tuples(2):
            claim = claims_together(ADDER, ADDER, (("s", "y"),), ({"c": one}, SUM[1]), ({"c": other}, SUM[1]))
            self.assertEqual(claim[0], {"ac": one, "bc": other})


if __name__ == "__main__":
    unittest.main()
