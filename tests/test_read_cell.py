"""Point [4]: cells read from texts, and every way in which a row is wrong."""

import re
import unittest

from cases import ADDER, CELLS, EVERY_WORD, GREATEST, WORDS
from laidcells.cells.texts import read_cell
from laidcells.errors import NoCell

COUNTS = {"and": (2, 3), "or": (2, 3), "odd": (2, 3), "most": (3,), "not": (1,), "one": (0,), "nil": (0,)}
# Every sign that a text may have, and some that it may not.
SIGNS = [chr(number) for number in range(32, 127)]
STRANGE = ["\t", "\r", "\x0b", "\x0c", "\x00", "\x85", "\xa0", "\u2028", "\u00e4", "\u00df", "\u0251", "\uff41"]


def first_wrong(text):
    """The first wrong row, or None: the document's sentence once more, by patterns."""
    rows = text.split("\n")
    known = []
    for at, row in enumerate(rows):
        if at == 0:
            if not re.fullmatch(r"in( [a-z]{1,8})*", row):
                return 0
            known = row.split(" ")[1:]
            if set(known) & set(WORDS) or any(known.count(name) > 1 for name in known):
                return 0
        elif re.match(r"out( |\Z)", row):
            outputs = row[4:].split(" ") if row != "out" else []
            if any(name not in known or outputs.count(name) > 1 for name in outputs):
                return at
            return at + 1 if at + 1 < len(rows) else None
        else:
            found = re.fullmatch(r"([a-z]{1,8}) ([a-z]+)((?: [a-z]{1,8})*)", row)
            if not found or found[1] in WORDS or found[1] in known or found[2] not in COUNTS:
                return at
            names = found[3].split(" ")[1:]
            if len(names) not in COUNTS[found[2]] or any(name not in known for name in names):
                return at
            known.append(found[1])
    return len(rows)


class Case(unittest.TestCase):
    def refused(self, text):
        with self.assertRaises(NoCell) as caught:
            read_cell(text)
        self.assertIs(type(caught.exception.row), int)
        return caught.exception.row


class Reading(Case):
    def test_ordinary_cells(self):
        for text, cell in CELLS:
            with self.subTest(text=text):
                self.assertEqual(read_cell(text), cell)

    def test_all_rows_of_things_are_tuples(self):
        for text in [text for text, cell in CELLS] + [GREATEST]:
            with self.subTest(text=text):
                cell = read_cell(text)
                self.assertIs(type(cell), tuple)
                self.assertEqual([type(part) for part in cell], [tuple] * 3)
                self.assertEqual({type(name) for name in cell[0] + cell[2]} - {str}, set())
                for gate in cell[1]:
                    self.assertIs(type(gate), tuple)
                    self.assertEqual([type(part) for part in gate], [str, str, tuple])
                    self.assertEqual({type(name) for name in gate[2]} - {str}, set())

    def test_asked_again_it_is_the_same(self):
        for text in (ADDER, EVERY_WORD, GREATEST):
            self.assertEqual(read_cell(text), read_cell(text))

    def test_each_word_by_each_number_of_names(self):
        for word, counts in COUNTS.items():
            for count in range(6):
                text = "in a b c d e\n" + " ".join(["x", word] + list("abcde")[:count]) + "\nout x"
                with self.subTest(text=text):
                    if count in counts:
                        self.assertEqual(read_cell(text)[1], (("x", word, tuple("abcde")[:count]),))
                    else:
                        self.assertEqual(self.refused(text), 1)

    def test_the_greatest_cell(self):
        cell = read_cell(GREATEST)
        self.assertEqual([len(part) for part in cell], [6, 24, 6])
        self.assertEqual(cell[1][0], ("abcdefgg", "most", ("abcdefgd", "abcdefge", "abcdefgf")))
        self.assertEqual(cell[2][2:4], ("abcdefgz", "bcdefgha"))

    def test_somewhat_beyond_the_bounds_nothing_is_refused(self):
        inputs = tuple("abcdefgh")
        gates = tuple(("x" + sign, "not", ("a",)) for sign in "abcdefghijklmnopqrstuvwxyz")
        outputs = tuple(name for name, word, names in gates)[:8]
        rows = [("in",) + inputs] + [(name, word) + names for name, word, names in gates] + [("out",) + outputs]
        self.assertEqual(read_cell("\n".join([" ".join(row) for row in rows])), (inputs, gates, outputs))


class Refusals(Case):
    def check(self, cases):
        for text, row in cases:
            with self.subTest(text=text):
                self.assertEqual(self.refused(text), row)

    def test_empty(self):
        self.check([("", 0)])

    def test_in_lacks_or_is_not_first(self):
        self.check([
            ("out", 0), ("out a", 0), ("a", 0), ("x one\nout x", 0), ("x one\nin a\nout x", 0), ("out\nin", 0),
            ("ina\nout", 0), ("In a\nout", 0), ("IN\nout", 0), ("i n\nout", 0), ("a in\nout", 0),
        ])

    def test_in_twice(self):
        self.check([("in\nin\nout", 1), ("in a\nin b\nout", 1), ("in a b\nx one\nin and a b\nout", 2)])

    def test_out_lacks(self):
        self.check([
            ("in", 1), ("in a", 1), ("in\nx one", 2), ("in a b\nx and a b\ny not x", 3),
            ("in a b\nouta and a b", 2), ("in a\nx not a\n" + "\n".join(["x" + sign + " one" for sign in "abc"]), 5),
        ])

    def test_out_in_another_form(self):
        self.check([("in a\nOut a", 1), ("in a\nouta", 1), ("in a\nout\ta", 1), ("in a\na out", 1)])

    def test_rows_behind_out(self):
        self.check([
            ("in\nout\nout", 2), ("in a\nout a\nx not a", 2), ("in a\nout\nin a", 2), ("in a\nx not a\nout x\n\n", 3),
            ("in a\nout a\nx not a\nout x", 2), ("in\nout\nsomething", 2),
        ])

    def test_a_name_told_twice(self):
        self.check([
            ("in a a\nout", 0), ("in a b a\nout", 0), ("in a\na one\nout", 1), ("in a b\nx nil\nb not a\nout", 2),
            ("in a\nx not a\nx not a\nout x", 2), ("in\nx one\ny one\nx nil\nout x", 3), ("in a\na not a\nout a", 1),
        ])

    def test_an_output_told_twice(self):
        self.check([
            ("in a\nout a a", 1), ("in a b\nout a b a", 1), ("in a\nx not a\nout x a x", 2),
        ])

    def test_a_name_of_a_gate_that_is_not_there_yet(self):
        self.check([
            ("in a\nx not b\nout x", 1), ("in a\nx not x\nout x", 1), ("in a\nx not y\ny not a\nout x", 1),
            ("in a\nx and a y\ny one\nout x", 1), ("in a\nx one\ny or a x z\nz one\nout", 2),
            ("in a b\nx most b z a\nout", 1), ("in\nx not a\nout", 1), ("in a\nx and a and\nout", 1),
        ])

    def test_a_strange_output(self):
        self.check([
            ("in\nout a", 1), ("in a\nout b", 1), ("in a\nx not a\nout x y", 2), ("in a\nout a out", 1),
            ("in a\nout in", 1), ("in a b\nout and a b", 1), ("in a\nout A", 1), ("in a\nx one\nout one", 2),
        ])

    def test_a_word_that_is_none(self):
        self.check([
            (f"in a b c\nx {word} a b c\nout", 1)
            for word in ("xor", "nand", "And", "AND", "a", "b", "x", "ands", "an", "ad", "in", "out", "0", "-", "&")
        ])
        self.check([("in\nx zero\nout", 1), ("in\nx ones\nout", 1), ("in a\nx nots a\nout", 1), ("in a\nx a\nout", 1)])

    def test_a_row_without_a_word(self):
        self.check([("in\nx\nout", 1), ("in a\na\nout", 1), ("in a\none\nout", 1), ("in a b\nand a b\nout", 1)])

    def test_the_wrong_number_of_names(self):
        self.check([
            ("in a\nx and\nout", 1), ("in a\nx or a\nout", 1), ("in a\nx odd a a a a\nout", 1),
            ("in a\nx most a a\nout", 1), ("in a\nx most a a a a\nout", 1), ("in a\nx not\nout", 1),
            ("in a\nx not a a\nout", 1), ("in a\nx one a\nout", 1), ("in a\nx nil a\nout", 1),
        ])

    def test_names_of_nine_letters(self):
        nine = "abcdefghi"
        self.check([
            (f"in {nine}\nout", 0), (f"in a {nine} b\nout", 0), (f"in\n{nine} one\nout", 1),
            (f"in abcdefgh\nx not {nine}\nout", 1), (f"in abcdefgh\nout {nine}", 1), (f"in {'a' * 1997}", 0),
        ])

    def test_names_with_other_signs(self):
        for sign in SIGNS + STRANGE:
            if "a" <= sign <= "z":
                continue
            for name in (sign, sign + "a", "a" + sign, "a" + sign + "a"):
                self.check([(f"in b {name}\nout", 0), (f"in b\nx one\n{name} one\nout", 2),
                            (f"in b\nx and b {name}\nout", 1), (f"in b\nout b {name}", 1)])

    def test_every_letter_is_let_by(self):
        for sign in "abcdefghijklmnopqrstuvwxyz":
            for name in (sign, sign * 2, sign * 8):
                self.assertEqual(read_cell(f"in {name}\nout {name}"), ((name,), (), (name,)))

    def test_names_that_are_words(self):
        for word in WORDS:
            self.check([(f"in {word}\nout", 0), (f"in a {word}\nout a", 0), (f"in a\nx not {word}\nout", 1)])
            if word != "out":
                self.check([(f"in a\n{word} not a\nout", 1), (f"in a\nx one\n{word} one\nout", 2)])
            self.check([(f"in a\nout {word}", 1)])
        self.check([("in a b\nout and a b\nout", 1), ("in a\nout one\nout", 1)])

    def test_blanks_ahead_behind_and_doubled(self):
        self.check([
            (" ", 0), (" in\nout", 0), ("in \nout", 0), ("in a \nout", 0), ("in  a\nout", 0), ("in a  b\nout", 0),
            ("in a\n x not a\nout", 1), ("in a\nx not a \nout", 1), ("in a\nx  not a\nout", 1),
            ("in a\nx not  a\nout", 1), ("in\nx one \nout", 1), ("in\nx nil \nout", 1), ("in a b\nx and a  b\nout", 1),
            ("in a\nx and a \nout", 1), ("in a\n out a", 1), ("in a\nout ", 1), ("in a\nout a ", 1),
            ("in a\nout  a", 1), ("in a b\nout a  b", 1), ("in\n \nout", 1), ("in\nout\n ", 2), (" out", 0),
        ])

    def test_line_ends_ahead_behind_and_doubled(self):
        self.check([
            ("\n", 0), ("\n\n", 0), ("\nin\nout", 0), ("in\n\nout", 1), ("in a\nx not a\n\nout x", 2),
            ("in\nout\n", 2), ("in a\nx not a\nout x\n", 3), ("in\n", 1), ("in a\nx not a\n", 2), ("in\nout\n\n", 2),
        ])

    def test_other_line_ends_are_none(self):
        for end in ("\r\n", "\r", "\x0b", "\x0c", "\x85", "\u2028", ";", "\n\r"):
            self.check([(f"in a{end}out", 0 if end != "\n\r" else 1)])

    def test_of_several_wrong_rows_the_first(self):
        self.check([
            ("in A\nx bad\nout B", 0), ("in a\nx bad\ny bad\nout B", 1), ("in a\nx not a\ny bad\nout B\n", 2),
            ("in a\nx not a\nout B\n", 2), ("in a\nout a\nbad\nbad", 2), ("in a\nx bad", 1), ("in a a", 0),
            ("in a\nx not y\nx not a\nout x", 1), ("in a\nx not a\nx not a\ny not b\nout y y", 2),
            ("in a\n\n\nout", 1), ("x one\n\n", 0),
        ])

    def test_every_text_one_sign_beside_a_cell(self):
        texts = ["in\nout", "in a\nout a", "in a b\nx and a b\nonea not x\nu one\nout onea b",
                 "in ou abcdefgh\nodda odd ou ou abcdefgh\nout odda", "in\nx nil\nm most x x x\nout m x"]
        signs = SIGNS + ["\n", "\t", "\r"]
        for text in texts:
            self.assertIsNone(first_wrong(text))
            beside = [text[:at] + text[at + 1:] for at in range(len(text))]
            beside += [text[:at] + sign + text[at:] for at in range(len(text) + 1) for sign in signs]
            beside += [text[:at] + sign + text[at + 1:] for at in range(len(text)) for sign in signs]
            beside += [text[:at] for at in range(len(text))]
            for other in beside:
                self.check_by_patterns(other)

    def test_rows_in_every_order(self):
        rows = ["in a", "in", "x not a", "y one", "x nil", "out x", "out", ""]
        texts = [[]]
        for length in range(4):
            texts = [text + [row] for text in texts for row in rows]
            for text in texts:
                self.check_by_patterns("\n".join(text))

    def check_by_patterns(self, text):
        row = first_wrong(text)
        if row is None:
            rows = [line.split(" ") for line in text.split("\n")]
            gates = tuple((words[0], words[1], tuple(words[2:])) for words in rows[1:-1])
            self.assertEqual(read_cell(text), (tuple(rows[0][1:]), gates, tuple(rows[-1][1:])), text)
        else:
            self.assertEqual(self.refused(text), row, text)


if __name__ == "__main__":
    unittest.main()
