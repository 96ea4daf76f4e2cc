"""How late a row is, at a width and at every width at once, and how many gates it has."""

from laidcells.rows.steps import carried_inputs


def latest(row, width):
    return lates_to(row, width)[-1]


def gate_count(row, width):
    # Those of no names are one and nil, which don't count.
    return width * len([name for name, word, names in row[0][1] if names])


def ways(row):
    whole = common_ring(len(row[1]))
    start = steady_from(row, whole)
    lates = lates_to(row, start + 2 * whole)
    # From start on each whole ring adds the same: so what a ring adds all through one it adds for ever.
    added = []
    ring = 0
    while len(set(added)) != 1:
        ring += 1
        added = [lates[at + ring] - lates[at] for at in range(start, start + whole)]
    count = start + ring
    while count > ring and lates[count] == lates[count - ring] + added[0]:
        count -= 1
    return (tuple(lates[1:count + 1]), ring, added[0])


def common_ring(count):
    # What is carried round comes back after at most as many cells as along has pairs: all such rings go into this one.
    ring = 1
    while any([ring % size for size in range(1, count + 1)]):
        ring += 1
    return ring


def lates_to(row, width):
    # By width, from 0 on, where nothing comes out.
    states = [at_edges(row)]
    for place in range(width):
        states.append(one_cell_more(row, states[-1]))
    return [state[-1] for state in states]


def at_edges(row):
    return [0] * (len(row[1]) + 1)


def one_cell_more(row, state):
    # A state has how late each carried bit is, in along's order, and last how late the row is. What is carried is
    # never earlier than one cell ahead: so the last cell's outputs are the latest of all.
    carried = dict(zip(carried_inputs(row), state))
    lates = told_lates(row[0], carried)
    onward = [lates[output] for output, name in row[1]]
    return onward + [max([lates[name] for name in row[0][2]], default=0)]


def told_lates(cell, carried):
    lates = dict([(name, carried.get(name, 0)) for name in cell[0]])
    for name, word, names in cell[1]:
        # Of no names: 0.
        lates[name] = 1 + max([lates[other] for other in names], default=-1)
    return lates


def steady_from(row, ring):
    states = [at_edges(row)]
    while len(states) <= ring or not are_steady(row, states[-1 - ring:]):
        states.append(one_cell_more(row, states[-1]))
    return len(states) - 1 - ring


def are_steady(row, states):
    added = [last - first for first, last in zip(states[0], states[-1])]
    return all([adds_always(row, state, added) for state in states[:-1]])


def adds_always(row, state, added):
    # One cell more is, for each part, the greatest of some parts, each with something more. With what is added so many
    # times that it outweighs all else, a part comes out by as much greater only if what is the latest in it now is also
    # what grows most: so it stays the latest, and the same is added by every ring to come.
    after = one_cell_more(row, state)
    times = 1 + max(after)
    return one_cell_more(row, more_by(state, added, times)) == more_by(after, added, times)


def more_by(state, added, times):
    return [late + times * more for late, more in zip(state, added)]
