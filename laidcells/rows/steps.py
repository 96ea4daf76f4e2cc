"""What one cell of a row does, by what is carried to it and the bits of its words."""

from laidcells.cells.bits import all_bits, side_bits


def carried_inputs(row):
    return [name for output, name in row[1]]


def word_inputs(row):
    carried = carried_inputs(row)
    return [name for name in row[0][0] if name not in carried]


def word_outputs(row):
    carried = [output for output, name in row[1]]
    return [name for name in row[0][2] if name not in carried]


def weighed_names(row):
    return word_inputs(row) + word_outputs(row) + carried_inputs(row)


def let_edges(row, edges):
    asked = [edges[name] for name in carried_inputs(row)]
    return [bits for bits in all_bits(len(asked)) if are_let(bits, asked)]


def are_let(bits, asked):
    return all([want is None or want == bit for bit, want in zip(bits, asked)])


def step_table(row, weights):
    # By what is carried to a cell, then by its words' bits: what it carries on, and its part of a claim's sum.
    table = {}
    for carried in all_bits(len(row[1])):
        table[carried] = steps_from(row, weights, carried)
    return table


def steps_from(row, weights, carried):
    found = {}
    for bits in all_bits(len(word_inputs(row))):
        known = side_bits(row[0], dict(zip(carried_inputs(row) + word_inputs(row), carried + bits)))
        onward = tuple([known[output] for output, name in row[1]])
        found[bits] = (onward, cell_part(row, weights, known))
    return found


def cell_part(row, weights, known):
    # Parts of all places, each times what its place is worth, come to the claim's sum: what is carried from one
    # cell to the next counts 2 less at the one and 1 more at the other, which is worth twice as much.
    part = weights.get("", 0)
    for name in word_inputs(row) + word_outputs(row):
        part += weights.get(name, 0) * known[name]
    for output, name in row[1]:
        part += weights.get(name, 0) * (known[name] - 2 * known[output])
    return part
