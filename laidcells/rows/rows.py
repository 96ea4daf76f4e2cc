"""Rows laid at a width: the words and ends that they tell, and whether a claim holds there."""

from laidcells.cells.bits import place_worths, told_by
from laidcells.cells.names import check_there
from laidcells.rows.steps import carried_inputs, let_edges, step_table, word_inputs, word_outputs


def laid(row, width, words, edges):
    cell = row[0]
    inputs = word_inputs(row)
    check_there(inputs, words)
    check_there(carried_inputs(row), edges)
    carried = dict([(name, edges[name]) for name in carried_inputs(row)])
    outputs = word_outputs(row)
    told = dict([(name, 0) for name in outputs])
    for worth in place_worths(width):
        bits = dict([(name, words[name] // worth % 2) for name in inputs])
        bits.update(carried)
        after = dict(zip(cell[2], told_by(cell, bits)))
        for name in outputs:
            told[name] += worth * after[name]
        carried = dict([(name, after[output]) for output, name in row[1]])
    return (told, dict([(output, carried[name]) for output, name in row[1]]))


def claim_holds(row, claim, width):
    table = step_table(row, claim[1])
    sums = dict([(carried, 0) for carried in table])
    for place in range(width):
        sums = sums_with_one_more(table, sums)
    return all([sums[edges] == 0 for edges in let_edges(row, claim[0])])


def sums_with_one_more(table, sums):
    return dict([(carried, only_sum(table[carried], sums)) for carried in table])


def only_sum(steps, sums):
    # None where not all words come to one sum: then they don't with more cells ahead either.
    found = None
    for bits in steps:
        behind = sums[steps[bits][0]]
        if behind is None:
            return None
        whole = steps[bits][1] + 2 * behind
        if found is not None and found != whole:
            return None
        found = whole
    return found
