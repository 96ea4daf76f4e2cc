"""Equations of a cell: weights of its names and pairs whose sum is 0, whatever the bits of its inputs."""

from laidcells.cells.bits import all_bits, side_bits


def is_equation(cell, weights):
    things = things_of(cell, True)
    asked = [weights.get(thing, 0) for thing in things]
    for values in value_table(cell, things):
        if sum([weight * value for weight, value in zip(asked, values)]) != 0:
            return False
    return True


def equations(cell, pairs):
    things = things_of(cell, pairs)
    heads = reduced(value_table(cell, things))
    firsts = [at for at in range(len(things)) if at not in heads]
    return [shown_equation(things, first, heads) for first in firsts]


def things_of(cell, pairs):
    inputs = list(cell[0])
    things = [""] + inputs + [name for name in cell[2] if name not in inputs]
    if pairs:
        for at, first in enumerate(inputs):
            things.extend([(first, second) for second in inputs[at + 1:]])
    return things


def value_table(cell, things):
    table = []
    for bits in all_bits(len(cell[0])):
        known = side_bits(cell, dict(zip(cell[0], bits)))
        known[""] = 1
        table.append([thing_value(thing, known) for thing in things])
    return table


def thing_value(thing, known):
    if isinstance(thing, tuple):
        return known[thing[0]] * known[thing[1]]
    return known[thing]


def reduced(table):
    # Each row is kept under its last column that is not 0, and no other row has anything there. A column without
    # a row hangs on columns behind it alone: so it is the first thing of an equation, as the list asks for.
    heads = {}
    for values in table:
        rest = values
        for at in heads:
            rest = cleared(rest, heads[at], at)
        if any(rest):
            last = max([at for at, value in enumerate(rest) if value != 0])
            for at in list(heads):
                heads[at] = cleared(heads[at], rest, last)
            heads[last] = rest
    return heads


def cleared(values, by, at):
    if values[at] == 0:
        return values
    rest = [by[at] * value - values[at] * other for value, other in zip(values, by)]
    return without_divisor(rest)


def without_divisor(numbers):
    # All may be 0, and then they have no greatest divisor.
    divisor = max(1, common_divisor(numbers))
    return [number // divisor for number in numbers]


def common_divisor(numbers):
    found = 0
    for number in numbers:
        found = divisor_of_two(found, abs(number))
    return found


def divisor_of_two(one, other):
    while other != 0:
        rest = one % other
        one = other
        other = rest
    return one


def shown_equation(things, first, heads):
    # The first weight is a multiple of whatever the others are divided by, so that all are whole.
    whole = 1
    for at in heads:
        whole = whole * abs(heads[at][at]) // divisor_of_two(abs(heads[at][at]), abs(heads[at][first]))
    weights = [0] * len(things)
    weights[first] = whole
    for at in heads:
        weights[at] = -(whole * heads[at][first]) // heads[at][at]
    return dict([pair for pair in zip(things, without_divisor(weights)) if pair[1] != 0])
