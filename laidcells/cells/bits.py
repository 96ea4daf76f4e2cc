"""What a cell tells of its outputs, by bits of its inputs."""

from laidcells.errors import NoName


def told_by(cell, bits):
    # A dict of its own: the one that is handed in is not changed.
    told = {}
    for name in cell[0]:
        if name not in bits:
            raise NoName(name)
        told[name] = bits[name]
    for name, word, names in cell[1]:
        told[name] = gate_bit(word, [told[known] for known in names])
    return tuple([told[name] for name in cell[2]])


def gate_bit(word, bits):
    if word == "and":
        return min(bits)
    if word == "or":
        return max(bits)
    if word == "odd":
        return sum(bits) % 2
    if word == "most":
        return 1 if sum(bits) >= 2 else 0
    if word == "not":
        return 1 - bits[0]
    return 1 if word == "one" else 0
