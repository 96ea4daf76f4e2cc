"""Point [16]: how late a row is, at a width and at every width, and how many gates it has."""

import random
import unittest

from cases import GREATEST, ROWS, cell_of, row_of
from laidcells.rows.ways import gate_count, latest, ways
from plain import any_row, plain_lates, plain_ways


def chain(name, first, count):
    """So many gates one behind the other, from a name on; the last one's name is the name with that count."""
    names = [first] + [name + "abcdefghijklmnopqrstuvwxyz"[at] for at in range(count)]
    return "".join([f"{names[at + 1]} not {names[at]}; " for at in range(count)]), names[-1]


def delays(pairs, more=""):
    """A row that carries from one input to another with so many gates between; pairs: (from, to, gates)."""
    ins, gates, outs, along = [], "", [], []
    for at, (source, goal, count) in enumerate(pairs):
        rows, last = chain("k" + "abcdef"[at], source, count)
        gates += rows
        ins.append(goal)
        outs.append(last)
        along.append(f"{last}>{goal}")
    return row_of(f"in {' '.join(ins)}; {gates}{more}out {' '.join(outs)}", " ".join(along))


# (row, what ways tells), each by hand.
BY_HAND = (
    (ROWS["adder"], ((1,), 1, 1)),
    (ROWS["less"], ((2,), 1, 1)),
    (ROWS["count"], ((1,), 1, 1)),
    (ROWS["three"], ((2,), 1, 1)),
    (ROWS["double"], ((1, 2), 1, 0)),
    (ROWS["nothing"], ((1,), 1, 0)),
    (ROWS["no inputs"], ((0,), 1, 0)),
    (ROWS["no outputs"], ((0,), 1, 0)),
    (ROWS["empty"], ((0,), 1, 0)),
    (ROWS["shift"], ((1, 2, 3, 4, 5), 1, 0)),
    (ROWS["parity"], ((2,), 1, 1)),
    (ROWS["no words out"], ((1,), 1, 1)),
    (ROWS["no words in"], ((1,), 1, 1)),
    # All that comes out is of one and nil, or of what hangs on them alone.
    (row_of("in x c; h one; l nil; out h l", "h>c"), ((0,), 1, 0)),
    (row_of("in x c; h one; n not h; out n h", "n>c"), ((1,), 1, 0)),
    (row_of("in c; m one; s not c; out s m", "m>c"), ((1,), 1, 0)),
    # Gates that nothing comes out of are not waited for.
    (row_of("in x; n not x; u not n; v not u; s not x; out s", ""), ((1,), 1, 0)),
    (row_of("in x; n not x; u not n; v not u; s not x; out s v", ""), ((3,), 1, 0)),
    # A word is later than what is carried for ever.
    (row_of("in x c; n not x; u not n; v not u; m not x; out v m", "m>c"), ((3,), 1, 0)),
    # 15 gates of a word, one of what is carried: from width 16 on what is carried is later.
    (row_of("in x c; " + chain("k", "x", 15)[0] + "m not c; out ko m", "m>c"), ((15,) * 15, 1, 1)),
    # What is carried to and fro, by 1 gate and by 2.
    (delays((("a", "b", 1), ("b", "a", 2))), ((2, 3), 2, 3)),
    (delays((("a", "b", 1), ("b", "a", 1))), ((1,), 1, 1)),
    (delays((("a", "b", 4), ("b", "a", 1))), ((4, 5), 2, 5)),
    # One alone comes round each three places: 1, 1 and 4 gates.
    (delays((("a", "b", 1), ("b", "c", 1), ("c", "a", 4))), ((4, 5, 6), 3, 6)),
    (delays((("a", "b", 2), ("b", "c", 2), ("c", "a", 2))), ((2,), 1, 2)),
    (delays((("a", "b", 1), ("b", "c", 1), ("c", "d", 1), ("d", "a", 5))), ((5, 6, 7, 8), 4, 8)),
    # Two to and fro, by 1 and 3 gates and by 1 and 2: the slower ones are never the later.
    (delays((("a", "b", 1), ("b", "a", 3), ("c", "d", 1), ("d", "c", 2))), ((3, 4), 2, 4)),
)


def told_by_ways(told, width):
    firsts, ring, more = told
    rings = max(0, -(-(width - len(firsts)) // ring))
    return firsts[width - 1 - rings * ring] + rings * more


class Case(unittest.TestCase):
    def check(self, row, widths, length=600):
        told = ways(row)
        self.assertEqual(ways(row), told)
        self.assertEqual((type(told), len(told), type(told[0])), (tuple, 3, tuple))
        self.assertEqual({type(number) for number in told[0] + told[1:]}, {int})
        self.assertGreaterEqual(told[1], 1)
        self.assertGreaterEqual(len(told[0]), told[1])
        lates = plain_lates(row, length)
        self.assertEqual(told, plain_ways(lates), row)
        self.assertEqual([told_by_ways(told, width) for width in range(1, length + 1)], lates, row)
        for width in widths:
            late = latest(row, width)
            self.assertIs(type(late), int)
            self.assertEqual((width, late), (width, lates[width - 1]), row)
        return told


class Ways(Case):
    def test_by_hand(self):
        for row, told in BY_HAND:
            self.assertEqual(self.check(row, range(1, 61)), told, row)

    def test_all_rows(self):
        for row in ROWS.values():
            self.check(row, range(1, 61))

    def test_the_slower_is_later_at_first(self):
        # a goes on by 2 each place; b comes by 4 each 3 places, from 14 gates on: for long b is later.
        slow, last = chain("m", "b", 12)
        row = delays((("a", "a", 2), ("d", "b", 1), ("b", "c", 1), ("c", "d", 2)), slow)
        row = ((row[0][0], row[0][1], row[0][2] + (last,)), row[1])
        told = self.check(row, range(1, 61))
        self.assertEqual(told[1:], (1, 2))
        self.assertGreater(len(told[0]), 15)
        # The other way round: what comes by 3 each 2 places overtakes what comes by 1 at each.
        slow, last = chain("m", "a", 16)
        row = delays((("a", "a", 1), ("b", "c", 1), ("c", "b", 2)), slow)
        row = ((row[0][0], row[0][1], row[0][2] + (last,)), row[1])
        told = self.check(row, range(1, 61))
        self.assertEqual(told[1:], (2, 3))
        self.assertGreater(len(told[0]), 25)
        # By 4 each 3 places against 1 at each.
        slow, last = chain("m", "a", 14)
        row = delays((("a", "a", 1), ("b", "c", 1), ("c", "d", 1), ("d", "b", 2)), slow)
        row = ((row[0][0], row[0][1], row[0][2] + (last,)), row[1])
        told = self.check(row, range(1, 61))
        self.assertEqual(told[1:], (3, 4))
        self.assertGreater(len(told[0]), 35)

    def test_rings_that_lie_in_one_another(self):
        # c has two ways round, over three places with 7 gates and over four with 9: the first is a little faster.
        cell = cell_of("in a b c d; ka not a; kb not b; kc not kb; ma not c; mb not ma; md not d; me not md;"
                       " mf not me; na not c; nb not na; nd not nb; nc or nd mf; out ka kc mb nc")
        row = (cell, (("ka", "b"), ("kc", "c"), ("mb", "d"), ("nc", "a")))
        self.assertEqual(self.check(row, range(1, 61))[1:], (3, 7))
        for along in (("nc>a ka>b mb>d kc>c"), ("ka>a kc>b mb>c nc>d"), ("nc>b kc>a mb>d ka>c")):
            self.check((cell, tuple(tuple(pair.split(">")) for pair in along.split())), range(1, 61))

    def test_chains_by_chance(self):
        chance = random.Random("chains")
        rings = {}
        for step in range(300):
            names = "abcd"[:chance.randint(1, 4)]
            gates, ends, outs = "", [], []
            for name in names:
                rows, last = chain("k" + name, name, chance.randint(0, 4))
                gates, ends = gates + rows, ends + [last]
            for name in names:
                sources = chance.sample(ends, min(len(ends), chance.choice((1, 1, 2, 3))))
                gates += f"o{name} or {' '.join((sources * 2)[:max(2, len(sources))])}; "
                outs.append("o" + name)
            row = row_of(f"in {' '.join(names)}; {gates}out {' '.join(outs)}",
                         " ".join([f"o{name}>{goal}" for name, goal in zip(names, chance.sample(names, len(names)))]))
            told = self.check(row, chance.sample(range(1, 200), 3), 400)
            rings[told[1]] = rings.get(told[1], 0) + 1
        self.assertEqual(sorted(rings), [1, 2, 3, 4])

    def test_rows_by_chance(self):
        chance = random.Random("ways")
        for step in range(300):
            row = any_row(chance, chance.randint(0, 6), chance.choice((1, 3, 8, 24)), chance.randint(0, 6),
                          chance.randint(0, 4))
            self.check(row, [1, 2, 3] + chance.sample(range(4, 100), 2), 300)

    def test_rows_with_nothing_carried(self):
        chance = random.Random("nothing carried")
        for step in range(60):
            row = any_row(chance, chance.randint(0, 6), chance.choice((1, 3, 8, 24)), chance.randint(0, 6), 0)
            firsts, ring, more = self.check(row, (1, 2, 40), 100)
            self.assertEqual((len(firsts), ring, more), (1, 1, 0))


class Latest(Case):
    def test_at_some_hundreds(self):
        for name in ("adder", "three", "shift", "everything", "crossed", "nothing", "empty"):
            lates = plain_lates(ROWS[name], 700)
            for width in list(range(1, 41)) + [100, 255, 256, 699, 700]:
                self.assertEqual(latest(ROWS[name], width), lates[width - 1])

    def test_at_10000(self):
        rows = [ROWS["adder"], ROWS["shift"], ROWS["everything"], ROWS["empty"]] + [row for row, told in BY_HAND[-6:]]
        for row in rows:
            late = latest(row, 10000)
            self.assertEqual(late, plain_lates(row, 10000)[-1])
            self.assertEqual(late, told_by_ways(ways(row), 10000))

    def test_an_adder(self):
        # The carry goes through one gate of each cell.
        for width in (1, 2, 3, 40, 64, 10000):
            self.assertEqual(latest(ROWS["adder"], width), width)

    def test_words_that_come_out_of_earlier_places(self):
        # s of the first place hangs on the word alone; at the others, too: no place is later than the last.
        row = row_of("in x c; n not x; s odd n c; m not c; out s m", "m>c")
        self.assertEqual([latest(row, width) for width in range(1, 6)], [2, 2, 3, 4, 5])

    def test_the_greatest_cell(self):
        inputs, gates, outputs = cell_of(GREATEST.replace("\n", ";"))
        cell = (inputs, gates, tuple(name for name, word, names in gates[-6:]))
        row = (cell, tuple(zip(cell[2][:4], inputs[2:])))
        told = self.check(row, (1, 2, 40, 300), 300)
        self.assertEqual(latest(row, 10000), told_by_ways(told, 10000))


class Gates(unittest.TestCase):
    def test_one_and_nil_are_not_counted(self):
        for name, count in (("adder", 2), ("less", 3), ("three", 5), ("nothing", 3), ("no inputs", 0), ("empty", 0),
                            ("no outputs", 0), ("everything", 2)):
            for width in (1, 2, 3, 40, 9999, 10000):
                answer = gate_count(ROWS[name], width)
                self.assertIs(type(answer), int)
                self.assertEqual(answer, count * width)

    def test_gates_of_which_nothing_comes_out_are_counted(self):
        self.assertEqual(gate_count(row_of("in x; n not x; u not n; out", ""), 7), 14)
        self.assertEqual(gate_count(row_of("in x; n not x; h one; l nil; u odd h l n; out u", ""), 5), 10)

    def test_rows_by_chance(self):
        chance = random.Random("gates")
        for step in range(100):
            row = any_row(chance, 4, chance.randint(0, 24), 4, 2)
            count = sum(word not in ("one", "nil") for name, word, names in row[0][1])
            for width in (1, chance.randint(2, 10000)):
                self.assertEqual(gate_count(row, width), count * width)


if __name__ == "__main__":
    unittest.main()
