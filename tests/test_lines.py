"""The desk's rows as they are read, and its answers as they are written [30]."""

import unittest

from chordbed.errors import NoRow
from chordbed.lines import read_row, shown_keys, shown_length, shown_seen, shown_sent
from tests.plain_desk import NO_ROWS


class Rows(unittest.TestCase):

    def test_each_kind(self):
        for row, read in (
            ("frame 2 3 10 0.0,1.2", ("frame", (2, 3, 10, ((0, 0), (1, 2))))),
            ("frame 0 99 0 99.0", ("frame", (0, 99, 0, ((99, 0),)))),
            ("bed\nkeys 1 wait 1\nlayer a", ("bed", "keys 1 wait 1\nlayer a")),
            ("bed\n", ("bed", "")),
            ("bed\n\n bed\n", ("bed", "\n bed\n")),
            ("scan 0", ("scan", (0,))),
            ("scan 63,0,1", ("scan", (63, 0, 1))),
            ("seen 99,99", ("seen", (99, 99))),
            ("keys", ("keys", ())),
            ("down 0", ("down", 0)),
            ("up 99", ("up", 99)),
            ("turn", ("turn", ())),
            ("states", ("states", ())),
            ("word az", ("word", "az")),
        ):
            self.assertEqual(read_row(row), read)

    def test_no_rows(self):
        for row in NO_ROWS:
            with self.assertRaises(NoRow, msg=row):
                read_row(row)


class Answers(unittest.TestCase):

    def test_what_is_sent(self):
        self.assertEqual(shown_sent([]), ".")
        self.assertEqual(shown_sent([("a", "down")]), "+a")
        self.assertEqual(shown_sent([("z", "up")]), "-z")
        self.assertEqual(shown_sent([("b", "down"), ("a", "down"), ("b", "up")]), "+b+a-b")

    def test_keys(self):
        self.assertEqual(shown_keys(()), ".")
        self.assertEqual(shown_keys((0,)), "0")
        self.assertEqual(shown_keys((2, 10, 11)), "2,10,11")

    def test_seen(self):
        self.assertEqual(shown_seen(("up", "sure", "unsure", "up")), "us?u")

    def test_lengths(self):
        self.assertEqual(shown_length(None), "never")
        self.assertEqual(shown_length([]), "0")
        self.assertEqual(shown_length([("down", 0), ("up", 0)]), "2")


if __name__ == "__main__":
    unittest.main()
