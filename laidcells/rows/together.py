"""Two rows laid together, words that come out of the first going into the second, and claims for such rows."""

from laidcells.cells.names import is_name
from laidcells.errors import NoCell, NoClaim, NoName
from laidcells.rows.steps import carried_inputs, weighed_names, word_inputs, word_outputs

MOST_INPUTS = 6
MOST_OUTPUTS = 6
MOST_GATES = 24
MOST_ALONG = 4


def rows_together(one, other, pairs):
    check_pairs(one, other, pairs)
    row = joined(row_turned(one, first_names(one)), row_turned(other, second_names(other, pairs)), pairs)
    check_bounds(row)
    return row


def check_pairs(one, other, pairs):
    outputs = word_outputs(one)
    inputs = word_inputs(other)
    for output, name in pairs:
        check_free(output, outputs)
        check_free(name, inputs)
        outputs.remove(output)
        inputs.remove(name)


def check_free(name, free):
    if name not in free:
        raise NoName(name)


def first_names(row):
    return dict([(name, "a" + name) for name in cell_names(row)])


def second_names(row, pairs):
    turned = dict([(name, "b" + name) for name in cell_names(row)])
    turned.update(dict([(name, "a" + output) for output, name in pairs]))
    return turned


def cell_names(row):
    return row[0][0] + tuple([name for name, word, names in row[0][1]])


def row_turned(row, turned):
    cell = row[0]
    gates = [(turned[name], word, all_turned(names, turned)) for name, word, names in cell[1]]
    along = [all_turned(pair, turned) for pair in row[1]]
    return ((all_turned(cell[0], turned), tuple(gates), all_turned(cell[2], turned)), tuple(along))


def all_turned(names, turned):
    return tuple([turned[name] for name in names])


def joined(one, other, pairs):
    # An input that is taken bears the output's name by now: so one list leaves both of them out.
    gone = ["a" + output for output, name in pairs]
    inputs = one[0][0] + without(other[0][0], gone)
    outputs = without(one[0][2], gone) + other[0][2]
    return ((inputs, one[0][1] + other[0][1], outputs), one[1] + other[1])


def without(names, gone):
    return tuple([name for name in names if name not in gone])


def check_bounds(row):
    cell = row[0]
    if not all([is_name(name) for name in cell_names(row)]):
        raise NoCell(0)
    if len(cell[0]) > MOST_INPUTS or len(cell[2]) > MOST_OUTPUTS:
        raise NoCell(0)
    if len(cell[1]) > MOST_GATES or len(row[1]) > MOST_ALONG:
        raise NoCell(0)


def claims_together(one, other, pairs, claim_one, claim_other):
    # Rows that can't be laid together are refused ahead of claims that can't.
    rows_together(one, other, pairs)
    turned = first_names(one)
    turned_other = second_names(other, pairs)
    edges = edges_turned(one, claim_one[0], turned)
    edges.update(edges_turned(other, claim_other[0], turned_other))
    weights = weights_turned(one, claim_one[1], turned)
    more = weights_turned(other, claim_other[1], turned_other)
    for name in more:
        weights[name] = weights.get(name, 0) + more[name]
    for output, name in pairs:
        if weights["a" + output] != 0:
            raise NoClaim(f"the weights of {output} and {name} don't come to 0")
    # With what is 0 all goes that is laid together.
    return (edges, dict([pair for pair in weights.items() if pair[1] != 0]))


def edges_turned(row, edges, turned):
    return dict([(turned[name], edges[name]) for name in carried_inputs(row)])


def weights_turned(row, weights, turned):
    found = dict([(turned[name], weights.get(name, 0)) for name in weighed_names(row)])
    found[""] = weights.get("", 0)
    return found
