"""The desk: rows kept under names, and lines that lay and judge them, tell of them, or lay two together."""

from laidcells.cells.bits import place_worths
from laidcells.cells.names import is_name
from laidcells.cells.texts import cell_shown, read_cell
from laidcells.errors import NoAsk
from laidcells.rows.judged import judged
from laidcells.rows.rows import laid
from laidcells.rows.steps import carried_inputs, weighed_names, word_inputs, word_outputs
from laidcells.rows.together import rows_together
from laidcells.rows.ways import gate_count, latest, ways

FIGURES = "0123456789"
GREATEST_WIDTH = 40
GREATEST_WEIGHT = 999999999
# What stands in a line for the number itself.
NUMBER_SIGN = "-"


class Desk:
    def __init__(self):
        self.kept = {}

    def ask(self, line):
        if "\n" in line:
            raise NoAsk("a line has no line end")
        if line.startswith("cell "):
            return self.put_cell(line)
        words = line.split(" ")
        if "" in words or len(words) < 2:
            raise NoAsk("words lack, or are not parted by single blanks")
        return self.answer(words[0], words[1:])

    def answer(self, verb, words):
        if verb == "along":
            return self.put_along(words)
        if verb == "both":
            return self.put_both(words)
        row = self.row_under(words[0])
        if verb == "lay":
            return lay_rows(row, words[1:])
        if verb == "judge":
            return judge_rows(row, words[1:])
        if verb == "late":
            return [str(latest(row, only_width(words[1:])))]
        if verb == "gates":
            return [str(gate_count(row, only_width(words[1:])))]
        if len(words) > 1:
            raise NoAsk("too many words")
        if verb == "ways":
            return ways_rows(row)
        if verb == "show":
            return cell_shown(row[0]).split("\n")
        raise NoAsk("no such line")

    def row_under(self, name):
        if name not in self.kept:
            raise NoAsk("no row stands under the name")
        return self.kept[name]

    def put_cell(self, line):
        parts = line.split(" ", 2)
        if len(parts) < 3 or not is_name(parts[1]):
            raise NoAsk("no name, or no text behind it")
        cell = read_cell(parts[2].replace(";", "\n"))
        if any([name in cell[0] for name in cell[2]]):
            raise NoAsk("an output is an input")
        self.kept[parts[1]] = (cell, ())
        return []

    def put_along(self, words):
        cell = self.row_under(words[0])[0]
        along = word_pairs(words[1:])
        check_each_once([output for output, name in along], cell[2])
        check_each_once([name for output, name in along], cell[0])
        self.kept[words[0]] = (cell, along)
        return []

    def put_both(self, words):
        if len(words) < 3 or not is_name(words[0]):
            raise NoAsk("three names are asked for")
        one = self.row_under(words[1])
        other = self.row_under(words[2])
        self.kept[words[0]] = rows_together(one, other, word_pairs(words[3:]))
        return []


def lay_rows(row, words):
    if not words:
        raise NoAsk("the width lacks")
    width = width_of(words[0])
    inputs = word_inputs(row)
    carried = carried_inputs(row)
    given = word_pairs(words[1:])
    if sorted([name for name, text in given]) != sorted(inputs + carried):
        raise NoAsk("each word and each edge is told once")
    greatest = sum(place_worths(width))
    numbers = dict([(name, number_of(text, greatest if name in inputs else 1)) for name, text in given])
    told = laid(row, width, numbers, numbers)
    ends = [name for name in row[0][2] if name in told[1]]
    return number_rows(word_outputs(row), told[0]) + number_rows(ends, told[1])


def judge_rows(row, words):
    given = word_pairs(words)
    check_each_once([name for name, text in given], weighed_names(row) + [NUMBER_SIGN])
    weights = dict([("" if name == NUMBER_SIGN else name, weight_of(text)) for name, text in given])
    edges = dict([(name, None) for name in carried_inputs(row)])
    told = judged(row, (edges, weights))
    if told[0] == "shown":
        return ["shown"]
    rows = ["broken " + str(told[1])]
    return rows + number_rows(carried_inputs(row), told[3]) + number_rows(word_inputs(row), told[2])


def ways_rows(row):
    told = ways(row)
    return [" ".join([str(late) for late in told[0]]), str(told[1]), str(told[2])]


def number_rows(names, numbers):
    return [name + " " + str(numbers[name]) for name in names]


def word_pairs(words):
    if len(words) % 2 != 0:
        raise NoAsk("pairs are not whole")
    return tuple([(words[at], words[at + 1]) for at in range(0, len(words), 2)])


def check_each_once(names, there):
    if len(set(names)) != len(names):
        raise NoAsk("a name stands twice")
    if not all([name in there for name in names]):
        raise NoAsk("a name is not there, or is of another kind")


def only_width(words):
    if len(words) != 1:
        raise NoAsk("one width is asked for")
    return width_of(words[0])


def width_of(text):
    width = number_of(text, GREATEST_WIDTH)
    if width == 0:
        raise NoAsk("a width is from 1 on")
    return width


def weight_of(text):
    if not text.startswith("-"):
        return number_of(text, GREATEST_WEIGHT)
    number = number_of(text[1:], GREATEST_WEIGHT)
    if number == 0:
        raise NoAsk("nothing but what is below 0 has a - ahead")
    return -number


def number_of(text, greatest):
    # int() would let other signs by, blanks and figures of other scripts among them.
    if text == "" or not all([sign in FIGURES for sign in text]):
        raise NoAsk("no number")
    if text.startswith("0") and text != "0":
        raise NoAsk("a nought ahead")
    # By its figures first: a number may have more of them than int() takes.
    if len(text) > len(str(greatest)) or int(text) > greatest:
        raise NoAsk("the number is too great")
    return int(text)
