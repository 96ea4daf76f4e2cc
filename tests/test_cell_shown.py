"""Point [4]: a cell shown is its text, and read back it is the same cell."""

import unittest

from cases import ADDER, CELLS, EVERY_WORD, GREATEST
from laidcells.cells.texts import cell_shown, read_cell


class Showing(unittest.TestCase):
    def test_a_cell_is_shown_as_its_text(self):
        for text, cell in CELLS:
            with self.subTest(text=text):
                self.assertEqual(cell_shown(cell), text)

    def test_shown_and_read_back_it_is_the_same(self):
        for text, cell in CELLS:
            with self.subTest(text=text):
                self.assertEqual(read_cell(cell_shown(cell)), cell)

    def test_read_and_shown_it_is_the_same_text(self):
        for text in (ADDER, EVERY_WORD, GREATEST):
            with self.subTest(text=text):
                self.assertEqual(cell_shown(read_cell(text)), text)

    def test_without_names_no_blank_stands_behind_in_and_out(self):
        self.assertEqual(cell_shown(((), (), ())), "in\nout")
        self.assertEqual(cell_shown(((), (("x", "one", ()),), ())), "in\nx one\nout")

    def test_what_is_told_is_a_text_and_the_same_again(self):
        for text, cell in CELLS:
            self.assertIs(type(cell_shown(cell)), str)
            self.assertEqual(cell_shown(cell), cell_shown(cell))


if __name__ == "__main__":
    unittest.main()
