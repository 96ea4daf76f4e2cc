"""What a cell tells of its outputs, by bits of its inputs."""

from laidcells.cells.names import check_there


def told_by(cell, bits):
    check_there(cell[0], bits)
    # A dict of its own: the one that is handed in is not changed.
    told = dict([(name, bits[name]) for name in cell[0]])
    for name, word, names in cell[1]:
        told[name] = gate_bit(word, [told[known] for known in names])
    return tuple([told[name] for name in cell[2]])


def side_bits(cell, bits):
    # Names of outputs and of inputs with their bits: those of inputs alone, all of them, are handed in.
    known = dict(bits)
    known.update(dict(zip(cell[2], told_by(cell, bits))))
    return known


def gate_bit(word, bits):
    if word == "and":
        return min(bits)
    if word == "or":
        return max(bits)
    if word == "odd":
        return sum(bits) % 2
    if word == "most":
        return 1 if sum(bits) >= 2 else 0
    if word == "not":
        return 1 - bits[0]
    return 1 if word == "one" else 0


def all_bits(count):
    # Built from behind, so that the tuples rise.
    found = [()]
    for step in range(count):
        found = [(0,) + bits for bits in found] + [(1,) + bits for bits in found]
    return found


def place_worths(count):
    found = []
    worth = 1
    for place in range(count):
        found.append(worth)
        worth = worth * 2
    return found
