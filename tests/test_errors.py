"""The refusals' classes and fields."""

import unittest

from chordbed.errors import (
    BedError, NoBed, NoBook, NoChord, NoFrame, NoKeys, NoReading, NoRow, NoText, NoWord, TooMany,
)

TEN = (NoFrame, NoReading, NoBed, NoChord, NoText, TooMany, NoKeys, NoBook, NoWord, NoRow)


class Classes(unittest.TestCase):

    def test_bed_error_is_a_value_error(self):
        self.assertTrue(issubclass(BedError, ValueError))

    def test_each_is_under_bed_error(self):
        for one in TEN:
            self.assertTrue(issubclass(one, BedError), one)
            self.assertTrue(issubclass(one, ValueError), one)
            self.assertIsNot(one, BedError)

    def test_none_is_under_another(self):
        for one in TEN:
            for other in TEN:
                self.assertEqual(issubclass(one, other), one is other, (one, other))

    def test_names(self):
        names = "NoFrame NoReading NoBed NoChord NoText TooMany NoKeys NoBook NoWord NoRow"
        self.assertEqual([one.__name__ for one in TEN], names.split())


class Fields(unittest.TestCase):

    def test_place(self):
        for one in (NoFrame, NoChord, NoBook):
            self.assertEqual(one(3).place, 3)
            self.assertIsNone(one(None).place)

    def test_layer_and_key(self):
        error = NoBed(2, 4)
        self.assertEqual((error.layer, error.key), (2, 4))
        error = NoBed(1, None)
        self.assertEqual((error.layer, error.key), (1, None))

    def test_row(self):
        self.assertEqual(NoText(5).row, 5)

    def test_most(self):
        self.assertEqual(TooMany(400).most, 400)

    def test_word(self):
        self.assertEqual(NoWord("tree").word, "tree")

    def test_fields_belong_to_each_object(self):
        one, other = NoFrame(0), NoFrame(1)
        self.assertEqual((one.place, other.place), (0, 1))

    def test_those_without_fields_are_raised_too(self):
        for one in (NoReading, NoKeys, NoRow):
            with self.assertRaises(BedError):
                raise one("so")


if __name__ == "__main__":
    unittest.main()
