"""The document's sentences once more, as plainly as can be: what the tests hold the program against.

Nothing here draws on the program. Chance is of a given seed, so each run is the same."""

import functools
import itertools
import math
from fractions import Fraction


def bit_tuples(count):
    return itertools.product((0, 1), repeat=count)


def plain_gate(word, bits):
    return {"and": all(bits), "or": any(bits), "odd": sum(bits) in (1, 3), "most": sum(bits) > 1,
            "not": not any(bits), "one": True, "nil": False}[word]


@functools.lru_cache(maxsize=None)
def plain_outputs(cell, bits):
    known = dict(zip(cell[0], bits))
    for name, word, names in cell[1]:
        known[name] = int(plain_gate(word, [known[other] for other in names]))
    return tuple((name, known[name]) for name in cell[2])


def plain_told(cell, bits):
    """The outputs' bits as a dict, by a dict of the inputs' bits."""
    return dict(plain_outputs(cell, tuple(bits[name] for name in cell[0])))


# Equations.

def plain_things(cell, pairs):
    names = list(cell[0]) + [name for name in cell[2] if name not in cell[0]]
    return [""] + names + (list(itertools.combinations(cell[0], 2)) if pairs else [])


def plain_values(cell, things):
    table = []
    for bits in bit_tuples(len(cell[0])):
        known = dict(zip(cell[0], bits))
        known.update(plain_told(cell, known))
        known[""] = 1
        table.append([known[t[0]] * known[t[1]] if isinstance(t, tuple) else known[t] for t in things])
    return table


def plain_is_equation(cell, weights):
    things = list(weights)
    return all(sum(weights[t] * v for t, v in zip(things, values)) == 0 for values in plain_values(cell, things))


def echelon(table):
    rows = [[Fraction(value) for value in row] for row in table]
    leads = []
    for column in range(len(table[0]) if table else 0):
        at = next((at for at in range(len(leads), len(rows)) if rows[at][column]), None)
        if at is None:
            continue
        rows[len(leads)], rows[at] = rows[at], rows[len(leads)]
        top = rows[len(leads)] = [value / rows[len(leads)][column] for value in rows[len(leads)]]
        for other in range(len(rows)):
            if other != len(leads) and rows[other][column]:
                factor = rows[other][column]
                rows[other] = [value - factor * by for value, by in zip(rows[other], top)]
        leads.append(column)
    return rows[:len(leads)], leads


def rank(table):
    return len(echelon(table)[1])


def null_vectors(table, width):
    """Whole vectors that come to 0 with each row of the table: as many as are free of each other."""
    rows, leads = echelon(table)
    found = []
    for free in range(width):
        if free in leads:
            continue
        vector = [Fraction(0)] * width
        vector[free] = Fraction(1)
        for row, lead in zip(rows, leads):
            vector[lead] = -row[free]
        common = math.lcm(*[value.denominator for value in vector])
        found.append([int(value * common) for value in vector])
    return found


# Rows.

def sides(row):
    """Names of the words that go in, the carried inputs, the words that come out, the carried outputs."""
    cell, along = row
    carried = [name for output, name in along]
    ends = [output for output, name in along]
    return ([name for name in cell[0] if name not in carried], carried,
            [name for name in cell[2] if name not in ends], ends)


def plain_laid(row, width, words, edges):
    cell, along = row
    ins, carried, outs, ends = sides(row)
    told = []
    for place in range(width):
        bits = {name: (words[name] >> place) & 1 for name in ins}
        for output, name in along:
            bits[name] = edges[name] if place == 0 else told[place - 1][output]
        told.append(plain_told(cell, bits))
    return ({name: sum(told[place][name] << place for place in range(width)) for name in outs},
            {name: told[width - 1][name] for name in ends})


def plain_sum(row, weights, width, words, edges):
    """The sum of [9], by the words and ends that are told."""
    told, ends = plain_laid(row, width, words, edges)
    total = weights.get("", 0) * (2 ** width - 1)
    for name in list(words) + list(told):
        total += weights.get(name, 0) * (words[name] if name in words else told[name])
    for output, name in row[1]:
        total += weights.get(name, 0) * (edges[name] - 2 ** width * ends[output])
    return total


def edges_let(row, edges):
    """Dicts of the edges that are let, the first first."""
    carried = [name for output, name in row[1]]
    for bits in bit_tuples(len(carried)):
        if all(edges[name] in (None, bit) for name, bit in zip(carried, bits)):
            yield dict(zip(carried, bits))


def ways_in(row, edges, width):
    """(words, edges) as they are let at a width, the first first."""
    ins = sides(row)[0]
    for bits in edges_let(row, edges):
        for words in itertools.product(range(2 ** width), repeat=len(ins)):
            yield dict(zip(ins, words)), bits


def plain_holds(row, claim, width):
    return all(plain_sum(row, claim[1], width, words, edges) == 0 for words, edges in ways_in(row, claim[0], width))


def first_break(row, claim, width):
    for words, edges in ways_in(row, claim[0], width):
        if plain_sum(row, claim[1], width, words, edges) != 0:
            return words, edges
    return None


def one_step(row, state, bits):
    """What is carried on from a state, and by thing what is counted once by the thing's weight."""
    ins, carried, outs, ends = sides(row)
    known = dict(zip(carried, state))
    known.update(zip(ins, bits))
    told = plain_told(row[0], known)
    counted = {"": 1}
    for name in ins:
        counted[name] = known[name]
    for name in outs:
        counted[name] = told[name]
    for output, name in row[1]:
        counted[name] = known[name] - 2 * told[output]
    return tuple(told[output] for output in ends), counted


def really_carried(row, edges):
    """All states that some words carry to some place."""
    states = [tuple(bits.values()) for bits in edges_let(row, edges)]
    for state in states:
        for bits in bit_tuples(len(sides(row)[0])):
            onward = one_step(row, state, bits)[0]
            if onward not in states:
                states.append(onward)
    return states


def plain_shown(row, claim, paper):
    """The sentence of [11]."""
    edges, weights = claim
    if any(len(state) != len(row[1]) for state in paper):
        return False
    if any(tuple(bits.values()) not in paper for bits in edges_let(row, edges)):
        return False
    for state in paper:
        for bits in bit_tuples(len(sides(row)[0])):
            onward, counted = one_step(row, state, bits)
            if onward not in paper or sum(weights.get(t, 0) * count for t, count in counted.items()) != 0:
                return False
    return True


def claims_from(row, states):
    """Dicts of weights that come to 0 at a cell that one of these is carried to: as many as are free of each other."""
    ins, carried, outs, ends = sides(row)
    things = [""] + ins + outs + carried
    table = []
    for state in states:
        for bits in bit_tuples(len(ins)):
            counted = one_step(row, state, bits)[1]
            table.append([counted[thing] for thing in things])
    return [dict(zip(things, vector)) for vector in null_vectors(table, len(things))]


def claims_shown(row, edges):
    """Those that hold at every width from these edges."""
    return claims_from(row, really_carried(row, edges))


def any_of(row):
    return {name: None for output, name in row[1]}


def small_widths(row, bits=8):
    ins, carried, outs, ends = sides(row)
    return [width for width in range(1, 7) if width * len(ins) + len(carried) <= bits]


def one_changed(row, weights):
    """(thing, weights with that thing's changed), for each thing that a claim may weigh."""
    ins, carried, outs, ends = sides(row)
    for thing in [""] + ins + carried + outs:
        for change in (-1, 1):
            yield thing, weights | {thing: weights.get(thing, 0) + change}


# Fields.

def plain_field(field, width, height, words, edges):
    """By asking back from each place to where its bits come from."""
    cell, along, rows, columns = field
    source = {name: (output, down, right) for output, name, down, right in along}
    goes = {output: (down, right) for output, name, down, right in along}

    def is_place(i, j):
        return 0 <= i < height and 0 <= j < width

    @functools.lru_cache(maxsize=None)
    def told(i, j):
        bits = {name: (words[name] >> i) & 1 for name in rows}
        bits.update({name: (words[name] >> j) & 1 for name in columns})
        for name, (output, down, right) in source.items():
            back = (i - down, j - right)
            bits[name] = told(*back)[output] if is_place(*back) else edges[name]
        return plain_told(cell, bits)

    answer = {}
    for output in cell[2]:
        places = [(i, j) for i in range(height) for j in range(width)]
        if output in goes:
            down, right = goes[output]
            places = [(i, j) for i, j in places if not is_place(i + down, j + right)]
        answer[output] = sum(2 ** (i + j) * told(i, j)[output] for i, j in places)
    return answer


def some_words(chance, field, width, height):
    """Words of all noughts, of all ones, by chance."""
    rows, columns = field[2:]
    for choose in (lambda top: 0, lambda top: top - 1, lambda top: chance.randint(0, top - 1)):
        yield {name: choose(2 ** height) for name in rows} | {name: choose(2 ** width) for name in columns}


# Claims for fields.

def field_sides(field):
    """Names of the carried inputs, and of the outputs that are in no along."""
    cell, along, rows, columns = field
    ends = [output for output, name, down, right in along]
    return [name for output, name, down, right in along], [name for name in cell[2] if name not in ends]


def field_things(field):
    carried, outs = field_sides(field)
    return [""] + list(field[2]) + list(field[3]) + list(itertools.product(field[2], field[3])) + outs + carried


def plain_field_sum(field, claim, width, height, words):
    """The sum of [13], by what is told of the field."""
    cell, along, rows, columns = field
    edges, weights = claim
    told = plain_field(field, width, height, words, edges)
    counted = {"": (2 ** width - 1) * (2 ** height - 1)}
    counted.update({name: words[name] * (2 ** width - 1) for name in rows})
    counted.update({name: words[name] * (2 ** height - 1) for name in columns})
    counted.update({(one, other): words[one] * words[other] for one in rows for other in columns})
    counted.update({name: told[name] for name in field_sides(field)[1]})
    for output, name, down, right in along:
        places = [(i, j) for i in range(height) for j in range(width)
                  if i - down not in range(height) or j - right not in range(width)]
        counted[name] = sum(2 ** (i + j) for i, j in places) * edges[name] - 2 ** (down + right) * told[output]
    return sum(weights.get(thing, 0) * count for thing, count in counted.items())


def field_words(field, width, height):
    """Dicts of all words of a size, the first first."""
    tops = [2 ** height] * len(field[2]) + [2 ** width] * len(field[3])
    for words in itertools.product(*[range(top) for top in tops]):
        yield dict(zip(field[2] + field[3], words))


def field_holds(field, claim, width, height):
    return all(plain_field_sum(field, claim, width, height, words) == 0
               for words in field_words(field, width, height))


def field_steps(field, paper):
    """For all bits that a paper lets: (what is carried to each input, by thing what its weight counts)."""
    cell, along, rows, columns = field
    may_be = dict(paper)
    names = list(rows + columns) + list(may_be)
    for bits in itertools.product(*[may_be.get(name, (0, 1)) for name in names]):
        known = dict(zip(names, bits))
        told = plain_told(cell, known)
        counted = {"": 1} | {name: known[name] for name in rows + columns}
        counted.update({(one, other): known[one] * known[other] for one in rows for other in columns})
        counted.update({name: told[name] for name in field_sides(field)[1]})
        counted.update({name: known[name] - 2 ** (down + right) * told[output]
                        for output, name, down, right in along})
        yield {name: told[output] for output, name, down, right in along}, counted


def plain_field_shown(field, claim, paper):
    """The sentence of [14]."""
    edges, weights = claim
    may_be = dict(paper)
    if any(edges[name] not in may_be[name] for name in may_be):
        return False
    for onward, counted in field_steps(field, paper):
        if any(onward[name] not in may_be[name] for name in may_be):
            return False
        if sum(weights.get(thing, 0) * count for thing, count in counted.items()) != 0:
            return False
    return True


def field_papers(field):
    names = field_sides(field)[0]
    return [tuple(zip(names, choice)) for choice in itertools.product(((0,), (1,), (0, 1)), repeat=len(names))]


def field_claims(field, paper):
    """Dicts of weights that come to 0 for all bits that a paper lets: as many as are free of each other."""
    things = field_things(field)
    table = [[counted[thing] for thing in things] for onward, counted in field_steps(field, paper)]
    return [dict(zip(things, vector)) for vector in null_vectors(table, len(things))]


def closed_paper(field, edges):
    """The paper of the fewest bits that has the edges and all that is carried on from what it has."""
    may_be = {name: {edges[name]} for name in field_sides(field)[0]}
    while True:
        paper = tuple((name, tuple(sorted(bits))) for name, bits in may_be.items())
        more = [(name, bit) for onward, counted in field_steps(field, paper) for name, bit in onward.items()
                if bit not in may_be[name]]
        if not more:
            return paper
        for name, bit in more:
            may_be[name].add(bit)


def plain_field_judged(field, claim):
    """The sentence of [15]."""
    shown = [paper for paper in field_papers(field) if plain_field_shown(field, claim, paper)]
    if shown:
        return ("shown", min(shown, key=lambda paper: (sum(len(bits) for name, bits in paper), paper)))
    for width, height in sorted(itertools.product((1, 2, 3), repeat=2), key=lambda size: (sum(size), size[0])):
        for words in field_words(field, width, height):
            if plain_field_sum(field, claim, width, height, words) != 0:
                return ("broken", width, height, words)
    return ("open",)


# How late rows are.

def plain_lates(row, width):
    """How late a row is at the widths from 1 to this one, place by place: the latest of all that comes out."""
    cell, along = row
    ins, carried, outs, ends = sides(row)
    late_words, answer = 0, []
    comes = dict.fromkeys(carried, 0)
    for place in range(width):
        lates = {name: comes.get(name, 0) for name in cell[0]}
        for name, word, names in cell[1]:
            lates[name] = 0 if word in ("one", "nil") else max(lates[other] for other in names) + 1
        late_words = max([late_words] + [lates[name] for name in outs])
        answer.append(max([late_words] + [lates[name] for name in ends]))
        comes = {name: lates[output] for output, name in along}
    return answer


def plain_ways(lates):
    """(firsts, ring, more) from a row of lates that is long enough: what holds all through its second half stays."""
    for ring in range(1, len(lates) // 4):
        more = lates[-1] - lates[-1 - ring]
        count = len(lates)
        while count > ring and lates[count - 1] == lates[count - 1 - ring] + more:
            count -= 1
        if count <= len(lates) // 2:
            return (tuple(lates[:count]), ring, more)
    return None


# Cells, rows and fields by chance.

COUNTS = (("and", 2), ("and", 3), ("or", 2), ("or", 3), ("odd", 2), ("odd", 3), ("odd", 2), ("most", 3), ("not", 1),
          ("one", 0), ("nil", 0))


def any_cell(chance, inputs, gates, outputs, take_inputs=False):
    """A cell with so many of each; outputs that are inputs where they may be taken."""
    ins = list("abcdef")[:inputs]
    chance.shuffle(ins)
    known, made = list(ins), []
    names = ["g" + sign for sign in "abcdefghijklmnopqrstuvwxyz"]
    chance.shuffle(names)
    for name in names[:gates]:
        word, count = chance.choice([pair for pair in COUNTS if known or not pair[1]])
        # Late names more often: so that gates come to hang on gates.
        made.append((name, word, tuple(chance.choice(known[-6:] + known) for step in range(count))))
        known.append(name)
    pool = known if take_inputs else [name for name in known if name not in ins]
    return (tuple(ins), tuple(made), tuple(chance.sample(pool, min(outputs, len(pool)))))


def any_row(chance, inputs, gates, outputs, pairs):
    cell = any_cell(chance, inputs, gates, outputs)
    pairs = min(pairs, len(cell[0]), len(cell[2]))
    return (cell, tuple(zip(chance.sample(cell[2], pairs), chance.sample(cell[0], pairs))))


def any_edges(chance, row, choices=(0, 1, None)):
    return {name: chance.choice(choices) for output, name in row[1]}


def any_field(chance, inputs, gates, outputs, pairs):
    cell = any_cell(chance, inputs, gates, outputs)
    ins = chance.sample(cell[0], len(cell[0]))
    pairs = min(pairs, len(ins), len(cell[2]))
    ways = [(1, 0), (0, 1), (1, 1), (1, -1)]
    along = tuple((output, name) + chance.choice(ways) for output, name in zip(chance.sample(cell[2], pairs), ins))
    rest = ins[pairs:]
    cut = chance.randint(0, len(rest))
    return (cell, along, tuple(rest[:cut]), tuple(rest[cut:]))
