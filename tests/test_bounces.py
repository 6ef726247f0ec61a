"""Bounces: what is told of one key's readings [8], and what follows from it [9]."""

import unittest
from itertools import product

from chordbed.bounces import told
from tests.plain_search import plain_told


class Told(unittest.TestCase):

    def test_an_empty_row(self):
        for bound in (0, 1, 5, 10 ** 19):
            self.assertEqual(told([], bound), [])

    def test_a_row_of_ups(self):
        self.assertEqual(told([0], 0), [])
        self.assertEqual(told([0, 0, 0], 2), [])

    def test_bound_0(self):
        self.assertEqual(told([1], 0), [(0, "down")])
        self.assertEqual(told([0, 1, 0, 1, 1, 0], 0), [(1, "down"), (2, "up"), (3, "down"), (5, "up")])

    def test_bound_1(self):
        self.assertEqual(told([0, 1, 0, 1, 1, 0], 1), [(1, "down"), (2, "up"), (3, "down"), (5, "up")])

    def test_just_as_many_turns_as_the_bound(self):
        self.assertEqual(told([1, 0, 0, 0], 2), [(0, "down"), (2, "up")])
        self.assertEqual(told([1, 0, 0, 0], 3), [(0, "down"), (3, "up")])
        self.assertEqual(told([1, 0, 0, 0], 4), [(0, "down")])
        self.assertEqual(told([1, 1, 0, 1, 0], 2), [(0, "down"), (2, "up")])
        self.assertEqual(told([1, 1, 0, 1, 1], 2), [(0, "down"), (2, "up"), (4, "down")])

    def test_the_first_change_waits_for_nothing(self):
        self.assertEqual(told([1], 3), [(0, "down")])
        self.assertEqual(told([0, 1], 10 ** 19), [(1, "down")])

    def test_the_bound_counts_from_what_was_told(self):
        self.assertEqual(told([1, 0, 1, 0, 1, 1], 3), [(0, "down"), (3, "up")])
        self.assertEqual(told([1, 0, 1, 0, 1, 1, 1], 3), [(0, "down"), (3, "up"), (6, "down")])

    def test_bounds_longer_than_the_row(self):
        for bound in (8, 100, 10 ** 19):
            self.assertEqual(told([0, 1, 0, 0, 1, 0, 0], bound), [(1, "down")])

    def test_long_rows(self):
        self.assertEqual(told([1, 0] * 100, 0), [(turn, ("down", "up")[turn % 2]) for turn in range(200)])
        self.assertEqual(told([0] * 199 + [1], 7), [(199, "down")])

    def test_kinds(self):
        changes = told([0, 1, 0], 0)
        self.assertIs(type(changes), list)
        for change in changes:
            self.assertEqual((type(change), type(change[0]), type(change[1])), (tuple, int, str))

    def test_all_short_rows_against_the_plain_words(self):
        for length in range(9):
            for readings in product((0, 1), repeat=length):
                for bound in (0, 1, 2, 3, 4, length, length + 1):
                    self.assertEqual(told(list(readings), bound), plain_told(readings, bound), (readings, bound))

    def test_the_list_handed_in_stays(self):
        readings = [0, 1, 0, 0, 1]
        told(readings, 2)
        self.assertEqual(readings, [0, 1, 0, 0, 1])

    def test_a_list_told_before_stays(self):
        readings = [0, 1, 0]
        first = told(readings, 0)
        readings[0] = 1
        second = told(readings, 0)
        second.append("more")
        self.assertEqual(first, [(1, "down"), (2, "up")])
        first.clear()
        self.assertEqual(told([0, 1, 0], 0), [(1, "down"), (2, "up")])


def bouncing_rows(changes, bound, end):
    """All rows as [9] says, of a key that truly changes in these turns."""
    bouncing = [change + late for change in changes for late in range(bound)]
    true = [sum(change <= turn for change in changes) % 2 for turn in range(end)]
    for any_readings in product((0, 1), repeat=len(bouncing)):
        readings = list(true)
        for turn, reading in zip(bouncing, any_readings):
            readings[turn] = reading
        yield readings


class Bounces(unittest.TestCase):

    def each_change_once(self, changes, bound, end):
        for readings in bouncing_rows(changes, bound, end):
            found = told(readings, bound)
            words = [("down", "up")[number % 2] for number in range(len(changes))]
            self.assertEqual([word for turn, word in found], words, (readings, bound))
            for change, answer in zip(changes, found):
                self.assertTrue(change <= answer[0] <= change + bound, (readings, bound, found))

    def test_no_change(self):
        for bound in range(4):
            self.each_change_once([], bound, 5)

    def test_one_change(self):
        for bound in range(5):
            for first in range(3):
                for more in range(3):
                    self.each_change_once([first], bound, first + bound + 1 + more)

    def test_changes_as_close_as_may_be(self):
        for bound in range(4):
            for count in (2, 3):
                changes = [1 + number * (bound + 1) for number in range(count)]
                self.each_change_once(changes, bound, changes[-1] + bound + 1)

    def test_changes_further_apart(self):
        for bound in range(4):
            for gaps in product((1, 2, 4), repeat=2):
                second = bound + gaps[0]
                third = second + bound + gaps[1]
                self.each_change_once([0, second, third], bound, third + bound + 2)

    def test_many_changes_with_a_small_bound(self):
        changes = [2, 5, 8, 12, 15]
        self.each_change_once(changes, 2, 18)
        self.each_change_once(list(range(0, 20)), 0, 20)

    def test_readings_that_bounce_at_their_worst(self):
        # Each change is seen only when its bounces have ended, the next one at once.
        self.assertEqual(told([0, 0, 1, 0, 1, 0], 2), [(2, "down"), (5, "up")])
        self.assertEqual(told([1, 0, 1, 0, 1, 0], 2), [(0, "down"), (3, "up")])


if __name__ == "__main__":
    unittest.main()
