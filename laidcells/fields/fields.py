"""Fields laid at a width and height: what goes out of them, and the sums of what stays."""

from laidcells.cells.bits import place_worths, told_by
from laidcells.cells.names import check_there


def field_laid(field, width, height, words, edges):
    check_there(field[2] + field[3], words)
    check_there([name for output, name, down, right in field[1]], edges)
    told = told_at_places(field, width, height, words, edges)
    worths = place_worths(width + height)
    ways = dict([(output, (down, right)) for output, name, down, right in field[1]])
    return dict([(name, summed(name, ways.get(name), told, worths)) for name in field[0][2]])


def told_at_places(field, width, height, words, edges):
    cell = field[0]
    row_worths = place_worths(height)
    column_worths = place_worths(width)
    told = {}
    # Row by row, each from 0 on: so all that is carried to a place is told ahead of it.
    for i in range(height):
        for j in range(width):
            bits = carried_bits(field[1], i, j, told, edges)
            bits.update(word_bits(field[2], words, row_worths[i]))
            bits.update(word_bits(field[3], words, column_worths[j]))
            told[(i, j)] = dict(zip(cell[2], told_by(cell, bits)))
    return told


def word_bits(names, words, worth):
    return dict([(name, words[name] // worth % 2) for name in names])


def carried_bits(along, i, j, told, edges):
    bits = {}
    for output, name, down, right in along:
        source = (i - down, j - right)
        bits[name] = told[source][output] if source in told else edges[name]
    return bits


def summed(name, way, told, worths):
    found = 0
    for i, j in told:
        # An output that is carried nowhere counts at every place, another one where it leaves the field.
        if way is None or (i + way[0], j + way[1]) not in told:
            found += worths[i + j] * told[(i, j)][name]
    return found
