"""Point [3], over the whole program: papers show claims, one thing is told, cells do together what they do alone."""

import random
import unittest

from laidcells.cells.bits import told_by
from laidcells.fields.fields import field_laid
from laidcells.fields.judged import field_judged, field_shown
from laidcells.rows.judged import judged, row_shown
from laidcells.rows.rows import claim_holds, laid
from laidcells.rows.together import claims_together, rows_together
from plain import (any_edges, any_field, any_row, bit_tuples, claims_from, claims_shown, closed_paper, field_claims,
                   field_holds, field_papers, field_sides, field_things, plain_field_sum, plain_holds, plain_sum, sides,
                   small_widths, some_words)


class Rows(unittest.TestCase):
    def test_any_paper_that_is_let_by_shows_its_claim(self):
        chance = random.Random("whole papers")
        seen = 0
        for step in range(200):
            row = any_row(chance, chance.randint(1, 5), chance.choice((2, 4, 9, 24)), chance.randint(1, 6),
                          chance.randint(1, 4))
            edges = any_edges(chance, row)
            states = list(bit_tuples(len(row[1])))
            for weights in [{}] + claims_shown(row, edges)[:1] + claims_from(row, chance.sample(states, 1))[:1]:
                claim = (edges, weights)
                for attempt in range(12):
                    paper = tuple(chance.sample(states, chance.randint(1, len(states))))
                    if not row_shown(row, claim, paper):
                        continue
                    seen += 1
                    self.assertEqual(judged(row, claim)[0], "shown")
                    self.assertTrue(all(plain_holds(row, claim, width) for width in small_widths(row, 6)))
                    self.assertTrue(all(claim_holds(row, claim, width) for width in (7, 23, 40)))
        self.assertGreater(seen, 200)

    def test_one_thing_is_told_never_two(self):
        chance = random.Random("whole judged")
        for step in range(200):
            row = any_row(chance, chance.randint(0, 5), chance.choice((2, 4, 9, 24)), chance.randint(1, 6),
                          chance.randint(0, 4))
            ins, carried, outs, ends = sides(row)
            edges = any_edges(chance, row)
            things = [""] + ins + carried + outs
            for weights in claims_shown(row, edges)[:1] + [{thing: chance.choice((0, 0, 0, 1)) for thing in things}]:
                claim = (edges, weights)
                answer = judged(row, claim)
                states = list(bit_tuples(len(row[1])))
                papers = [tuple(chance.sample(states, chance.randint(1, len(states)))) for attempt in range(10)]
                if answer[0] == "shown":
                    self.assertTrue(row_shown(row, claim, answer[1]))
                    self.assertTrue(all(claim_holds(row, claim, width) for width in range(1, 41)))
                else:
                    self.assertNotEqual(plain_sum(row, weights, *answer[1:]), 0)
                    self.assertTrue(all(claim_holds(row, claim, width) for width in range(1, answer[1])))
                    self.assertFalse(any(row_shown(row, claim, paper) for paper in papers + [tuple(states)]))

    def test_cells_do_together_what_they_do_one_by_one(self):
        chance = random.Random("whole laid")
        for step in range(150):
            row = any_row(chance, chance.randint(0, 6), chance.choice((2, 9, 24)), 6, chance.randint(0, 4))
            ins, carried, outs, ends = sides(row)
            width = chance.randint(1, 40)
            words = {name: chance.randint(0, 2 ** width - 1) for name in ins}
            edges = {name: chance.randint(0, 1) for name in carried}
            told, comes = dict.fromkeys(outs, 0), dict(edges)
            for place in range(width):
                bits = {name: words[name] >> place & 1 for name in ins} | comes
                after = dict(zip(row[0][2], told_by(row[0], bits)))
                told = {name: told[name] + (after[name] << place) for name in outs}
                comes = {name: after[output] for output, name in row[1]}
            last = {output: comes[name] for output, name in row[1]}
            self.assertEqual(laid(row, width, words, edges), (told, last))

    def test_a_row_in_two_parts(self):
        # What ends the lower part is the edge of the upper one.
        chance = random.Random("whole parts")
        for step in range(150):
            row = any_row(chance, chance.randint(0, 6), chance.choice((2, 9, 24)), 6, chance.randint(0, 4))
            ins, carried, outs, ends = sides(row)
            low, high = chance.randint(1, 20), chance.randint(1, 20)
            words = {name: chance.randint(0, 2 ** (low + high) - 1) for name in ins}
            edges = {name: chance.randint(0, 1) for name in carried}
            first, between = laid(row, low, {name: word % 2 ** low for name, word in words.items()}, edges)
            second, last = laid(row, high, {name: word >> low for name, word in words.items()},
                                {name: between[output] for output, name in row[1]})
            self.assertEqual(laid(row, low + high, words, edges),
                             ({name: first[name] + (second[name] << low) for name in outs}, last))

    def test_claims_of_rows_laid_together_stay_right(self):
        chance = random.Random("whole together")
        seen = 0
        for step in range(300):
            one, other = [any_row(chance, 3, chance.choice((3, 6, 12)), 3, chance.randint(0, 2)) for side in range(2)]
            outs, ins = sides(one)[2], sides(other)[0]
            if not outs or not ins:
                continue
            pair = (chance.choice(outs), chance.choice(ins))
            edges = any_edges(chance, one), any_edges(chance, other)
            for weights in claims_shown(one, edges[0]):
                for more in claims_shown(other, edges[1]):
                    if weights[pair[0]] + more[pair[1]] != 0:
                        continue
                    claim = claims_together(one, other, (pair,), (edges[0], weights), (edges[1], more))
                    answer = judged(rows_together(one, other, (pair,)), claim)
                    self.assertEqual(answer[0], "shown")
                    seen += 1
        self.assertGreater(seen, 100)


class Fields(unittest.TestCase):
    def some_fields(self, seed, count):
        chance = random.Random(seed)
        for step in range(count):
            field = any_field(chance, chance.randint(0, 5), chance.choice((2, 4, 9, 24)), chance.randint(1, 6),
                              chance.randint(0, 3))
            if len(field[2] + field[3]) <= 2:
                edges = {name: chance.randint(0, 1) for name in field_sides(field)[0]}
                yield chance, field, edges

    def test_one_thing_is_told_never_two(self):
        seen = {"shown": 0, "broken": 0, "open": 0}
        for chance, field, edges in self.some_fields("whole fields", 250):
            claims = field_claims(field, closed_paper(field, edges))[:1]
            claims += field_claims(field, tuple((name, (edges[name],)) for name in edges))[:2]
            claims += [{thing: chance.choice((0, 0, 1)) for thing in field_things(field)}]
            for weights in claims:
                claim = (edges, weights)
                answer = field_judged(field, claim)
                seen[answer[0]] += 1
                let_by = [paper for paper in field_papers(field) if field_shown(field, claim, paper)]
                if answer[0] == "shown":
                    self.assertIn(answer[1], let_by)
                    for width, height in ((1, 1), (2, 2), (3, 1)):
                        self.assertTrue(field_holds(field, claim, width, height))
                    for width, height in ((4, 5), (8, 8)):
                        for words in some_words(chance, field, width, height):
                            self.assertEqual(plain_field_sum(field, claim, width, height, words), 0)
                else:
                    self.assertEqual(let_by, [])
                if answer[0] == "broken":
                    self.assertNotEqual(plain_field_sum(field, claim, *answer[1:]), 0)
                if answer[0] == "open":
                    self.assertTrue(all(field_holds(field, claim, width, height)
                                        for width in (1, 2, 3) for height in (1, 2, 3)))
        self.assertGreater(min(seen["shown"], seen["broken"]), 100)

    def test_cells_do_together_what_they_do_one_by_one(self):
        for chance, field, edges in self.some_fields("whole laid fields", 150):
            cell, along, rows, columns = field
            width, height = chance.randint(1, 8), chance.randint(1, 8)
            words = {name: chance.randint(0, 2 ** height - 1) for name in rows}
            words.update({name: chance.randint(0, 2 ** width - 1) for name in columns})
            goes = {output: (down, right) for output, name, down, right in along}
            told, sums = {}, dict.fromkeys(cell[2], 0)
            for i in range(height):
                for j in range(width):
                    bits = {name: words[name] >> i & 1 for name in rows}
                    bits.update({name: words[name] >> j & 1 for name in columns})
                    for output, name, down, right in along:
                        bits[name] = told.get((i - down, j - right), {output: edges[name]})[output]
                    told[i, j] = dict(zip(cell[2], told_by(cell, bits)))
            for i, j in told:
                for name in cell[2]:
                    down, right = goes.get(name, (height, width))
                    if (i + down, j + right) not in told:
                        sums[name] += told[i, j][name] << (i + j)
            self.assertEqual(field_laid(field, width, height, words, edges), sums)

    def test_a_field_of_rows_is_judged_as_its_row(self):
        # Carried to the right alone, with columns alone, a field is its row so many times.
        chance = random.Random("whole rows and fields")
        seen = {"shown": 0, "broken": 0, "open": 0}
        for step in range(250):
            row = any_row(chance, chance.randint(0, 5), chance.choice((2, 4, 9)), chance.randint(1, 5),
                          chance.randint(0, 3))
            ins, carried, outs, ends = sides(row)
            if len(ins) > 3:
                continue
            field = (row[0], tuple((output, name, 0, 1) for output, name in row[1]), (), tuple(ins))
            edges = {name: chance.randint(0, 1) for name in carried}
            start = [tuple(edges.values())]
            for weights in claims_shown(row, edges)[:1] + claims_from(row, start)[:2] + [{"": 1}]:
                answer, of_row = field_judged(field, (edges, weights)), judged(row, (edges, weights))
                seen[answer[0]] += 1
                if of_row[0] == "shown":
                    self.assertNotEqual(answer[0], "broken")
                elif of_row[1] > 3:
                    self.assertEqual(answer, ("open",))
                else:
                    self.assertEqual(answer, ("broken", of_row[1], 1, of_row[2]))
        self.assertGreater(min(seen.values()), 0)
        self.assertGreater(min(seen["shown"], seen["broken"]), 100)


if __name__ == "__main__":
    unittest.main()
