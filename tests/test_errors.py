"""The interface's errors: what stands under what, and what each keeps."""

import unittest

from laidcells.errors import CellError, NoAsk, NoCell, NoClaim, NoName

REFUSALS = (NoClaim, NoAsk, NoCell, NoName)


class Errors(unittest.TestCase):
    def test_cell_error_is_a_value_error(self):
        self.assertTrue(issubclass(CellError, ValueError))
        with self.assertRaises(ValueError):
            raise CellError("a text")

    def test_each_stands_under_cell_error_and_value_error(self):
        for kind in REFUSALS:
            with self.subTest(kind=kind.__name__):
                self.assertTrue(issubclass(kind, CellError))
                self.assertTrue(issubclass(kind, ValueError))
                self.assertIsNot(kind, CellError)

    def test_none_but_cell_error_stands_above_another(self):
        for above in REFUSALS:
            for below in REFUSALS:
                with self.subTest(above=above.__name__, below=below.__name__):
                    self.assertEqual(issubclass(below, above), below is above)

    def test_no_claim_and_no_ask_are_made_of_a_text(self):
        for kind in (NoClaim, NoAsk):
            with self.subTest(kind=kind.__name__):
                with self.assertRaises(kind) as caught:
                    raise kind("a text")
                self.assertIn("a text", str(caught.exception))

    def test_no_cell_keeps_its_row(self):
        for row in (0, 1, 25, 1000):
            self.assertEqual(NoCell(row).row, row)

    def test_no_name_keeps_its_word(self):
        for word in ("a", "abcdefgh", "", "two words", "{word}"):
            self.assertEqual(NoName(word).word, word)

    def test_each_object_has_its_own_value(self):
        first, second = NoCell(1), NoCell(2)
        self.assertEqual((first.row, second.row), (1, 2))
        one, other = NoName("a"), NoName("b")
        self.assertEqual((one.word, other.word), ("a", "b"))


if __name__ == "__main__":
    unittest.main()
