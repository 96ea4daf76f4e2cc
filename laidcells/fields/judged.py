"""Fields judged: a paper that shows a claim at every size, or the first small size and words that break it."""

from laidcells.cells.bits import all_bits, place_worths, side_bits
from laidcells.fields.fields import field_laid

BIT_CHOICES = ((0,), (0, 1), (1,))
# By width and height together, then by width.
SMALL_SIZES = ((1, 1), (1, 2), (2, 1), (1, 3), (2, 2), (3, 1), (2, 3), (3, 2), (3, 3))


def field_judged(field, claim):
    steps = cell_steps(field, claim[1])
    for paper in sorted(all_papers(field), key=fewest_bits_first):
        if is_let_by(claim[0], paper, steps):
            return ("shown", paper)
    for width, height in SMALL_SIZES:
        for words in all_words(field, width, height):
            if claim_sum(field, claim, width, height, words) != 0:
                return ("broken", width, height, words)
    return ("open",)


def field_shown(field, claim, paper):
    # A paper that leaves out a carried input tells nothing of it, so it shows nothing.
    if [name for name, bits in paper] != [name for output, name, down, right in field[1]]:
        return False
    return is_let_by(claim[0], paper, cell_steps(field, claim[1]))


def all_papers(field):
    papers = [()]
    for output, name, down, right in field[1]:
        longer = []
        for bits in BIT_CHOICES:
            longer.extend([paper + ((name, bits),) for paper in papers])
        papers = longer
    return papers


def fewest_bits_first(paper):
    return (sum([len(bits) for name, bits in paper]), paper)


def is_let_by(edges, paper, steps):
    choices = [bits for name, bits in paper]
    if not are_among([edges[name] for name, bits in paper], choices):
        return False
    for carried, onward, part in steps:
        if are_among(carried, choices) and (part != 0 or not are_among(onward, choices)):
            return False
    return True


def are_among(bits, choices):
    return all([bit in choice for bit, choice in zip(bits, choices)])


def cell_steps(field, weights):
    # For all bits of a cell's inputs: what is carried to it, what it carries on, and its part of a claim's sum.
    steps = []
    for bits in all_bits(len(field[0][0])):
        known = side_bits(field[0], dict(zip(field[0][0], bits)))
        carried = [known[name] for output, name, down, right in field[1]]
        onward = [known[output] for output, name, down, right in field[1]]
        steps.append((carried, onward, cell_part(field, weights, known)))
    return steps


def cell_part(field, weights, known):
    part = weights.get("", 0)
    for name in field[2] + field[3] + staying_outputs(field):
        part += weights.get(name, 0) * known[name]
    for row, column in word_pairs(field):
        part += weights.get((row, column), 0) * known[row] * known[column]
    for output, name, down, right in field[1]:
        part += weights.get(name, 0) * (known[name] - way_worth(down, right) * known[output])
    return part


def staying_outputs(field):
    carried = [output for output, name, down, right in field[1]]
    return tuple([name for name in field[0][2] if name not in carried])


def word_pairs(field):
    pairs = []
    for row in field[2]:
        pairs.extend([(row, column) for column in field[3]])
    return pairs


def way_worth(down, right):
    # How many times as much a place so far down and right is worth.
    return place_worths(down + right + 1)[-1]


def all_words(field, width, height):
    tops = [(name, height) for name in field[2]] + [(name, width) for name in field[3]]
    found = [{}]
    for name, places in tops:
        longer = []
        for words in found:
            longer.extend([dict(list(words.items()) + [(name, word)]) for word in range(all_ones(places) + 1)])
        found = longer
    return found


def all_ones(places):
    return sum(place_worths(places))


def claim_sum(field, claim, width, height, words):
    edges = claim[0]
    weights = claim[1]
    told = field_laid(field, width, height, words, edges)
    total = weights.get("", 0) * all_ones(width) * all_ones(height)
    for name in field[2]:
        total += weights.get(name, 0) * words[name] * all_ones(width)
    for name in field[3]:
        total += weights.get(name, 0) * words[name] * all_ones(height)
    for row, column in word_pairs(field):
        total += weights.get((row, column), 0) * words[row] * words[column]
    for name in staying_outputs(field):
        total += weights.get(name, 0) * told[name]
    for output, name, down, right in field[1]:
        came = edges[name] * edge_worth(width, height, down, right)
        total += weights.get(name, 0) * (came - way_worth(down, right) * told[output])
    return total


def edge_worth(width, height, down, right):
    worths = place_worths(width + height)
    found = 0
    for i in range(height):
        # Right may be -1: then it is the last place of a row that nothing is carried to.
        edges = [j for j in range(width) if i < down or not 0 <= j - right < width]
        found += sum([worths[i + j] for j in edges])
    return found
