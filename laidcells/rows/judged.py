"""Rows judged: a paper that shows a claim at every width, or the least width and the first words that break it."""

from laidcells.cells.bits import all_bits, place_worths
from laidcells.rows.steps import carried_inputs, let_edges, step_table, word_inputs


def judged(row, claim):
    table = step_table(row, claim[1])
    starts = let_edges(row, claim[0])
    choices = all_bits(len(word_inputs(row)))
    known = {}
    fresh = starts
    width = 0
    # While no width breaks the claim all parts are 0: the first part that is not breaks it at the width it ends.
    while fresh:
        width += 1
        if is_broken_by(table, fresh, choices):
            return broken(row, table, starts, width)
        known.update(dict([(carried, True) for carried in fresh]))
        fresh = [carried for carried in carried_on(table, fresh, choices) if carried not in known]
    return ("shown", tuple(sorted(known)))


def is_broken_by(table, states, choices):
    return any([has_break(table[carried], choices) for carried in states])


def has_break(steps, choices):
    return any([steps[bits][1] != 0 for bits in choices])


def carried_on(table, states, choices):
    found = {}
    for carried in states:
        for bits in choices:
            found[table[carried][bits][0]] = True
    return list(found)


def broken(row, table, starts, width):
    inputs = word_inputs(row)
    choices = [all_bits(len(inputs))] * width
    edges = [bits for bits in starts if can_break(table, bits, choices)][0]
    words = {}
    for at, name in enumerate(inputs):
        choices = with_least_word(table, edges, choices, at)
        words[name] = word_told(choices, at)
    return ("broken", width, words, dict(zip(carried_inputs(row), edges)))


def can_break(table, edges, choices):
    # At the least width that breaks, only the last cell's part can be other than 0.
    states = [edges]
    for place in range(len(choices) - 1):
        states = carried_on(table, states, choices[place])
    return is_broken_by(table, states, choices[-1])


def with_least_word(table, edges, choices, at):
    # The bit worth most is settled first: the least word is the first.
    settled = list(choices)
    for place in reversed(range(len(choices))):
        settled[place] = with_bit(choices[place], at, 0)
        if not can_break(table, edges, settled):
            settled[place] = with_bit(choices[place], at, 1)
    return settled


def with_bit(choices, at, bit):
    return [bits for bits in choices if bits[at] == bit]


def word_told(choices, at):
    # A settled word has one bit at a place, whichever of its choices is looked at.
    return sum([worth * left[0][at] for worth, left in zip(place_worths(len(choices)), choices)])


def row_shown(row, claim, paper):
    table = step_table(row, claim[1])
    held = dict([(carried, True) for carried in paper])
    # Tuples of another number of bits are none of the table's.
    if not all([carried in table for carried in held]):
        return False
    if not all([edges in held for edges in let_edges(row, claim[0])]):
        return False
    return all([stays_held(table[carried], held) for carried in held])


def stays_held(steps, held):
    return all([steps[bits][1] == 0 and steps[bits][0] in held for bits in steps])
