"""Cells as texts: read_cell reads a cell from its rows, cell_shown writes them."""

from laidcells.cells.names import is_name, word_takes
from laidcells.errors import NoCell


def read_cell(text):
    rows = [row.split(" ") for row in text.split("\n")]
    if not are_inputs(rows[0]):
        raise NoCell(0)
    inputs = tuple(rows[0][1:])
    gates = []
    known = list(inputs)
    for at in range(1, len(rows)):
        words = rows[at]
        if words[0] == "out":
            check_end(rows, at, known)
            return (inputs, tuple(gates), tuple(words[1:]))
        if not is_gate(words, known):
            raise NoCell(at)
        gates.append((words[0], words[1], tuple(words[2:])))
        known.append(words[0])
    raise NoCell(len(rows))


def are_inputs(words):
    names = words[1:]
    return words[0] == "in" and all([is_name(name) for name in names]) and is_each_once(names)


def is_gate(words, known):
    if len(words) < 2 or not is_name(words[0]) or words[0] in known:
        return False
    names = words[2:]
    return word_takes(words[1], len(names)) and are_known(names, known)


def check_end(rows, at, known):
    outputs = rows[at][1:]
    if not are_known(outputs, known) or not is_each_once(outputs):
        raise NoCell(at)
    if at + 1 < len(rows):
        raise NoCell(at + 1)


def are_known(names, known):
    return all([name in known for name in names])


def is_each_once(names):
    return len(set(names)) == len(names)


def cell_shown(cell):
    rows = [("in",) + cell[0]]
    for name, word, names in cell[1]:
        rows.append((name, word) + names)
    rows.append(("out",) + cell[2])
    return "\n".join([" ".join(row) for row in rows])
