"""Frames [4] and what they read [5]."""

import unittest

from chordbed.errors import NoFrame
from chordbed.frames import frame_of, reads
from tests.plain_search import chain_frame, plain_reading, sets_of, small_frames

TWELVE = [(row, column) for row in range(6) for column in range(2)]


class Frames(unittest.TestCase):

    def refused(self, place, rows, columns, spots):
        with self.assertRaises(NoFrame) as caught:
            frame_of(rows, columns, spots)
        self.assertEqual(caught.exception.place, place, (rows, columns, spots))
        self.assertIs(type(caught.exception.place), type(place))

    def test_an_ordinary_frame(self):
        frame = frame_of(2, 3, [(1, 2), (0, 0), (1, 0)])
        self.assertEqual(frame, (2, 3, ((1, 2), (0, 0), (1, 0))))
        self.assertIs(type(frame), tuple)
        self.assertIs(type(frame[2]), tuple)

    def test_the_least_and_the_greatest(self):
        self.assertEqual(frame_of(1, 1, [(0, 0)]), (1, 1, ((0, 0),)))
        self.assertEqual(frame_of(6, 6, [(5, 5)]), (6, 6, ((5, 5),)))
        self.assertEqual(frame_of(1, 6, [(0, 5)]), (1, 6, ((0, 5),)))
        self.assertEqual(frame_of(6, 1, [(5, 0)]), (6, 1, ((5, 0),)))
        self.assertEqual(frame_of(6, 6, TWELVE), (6, 6, tuple(TWELVE)))

    def test_every_spot_of_every_size(self):
        for rows in range(1, 7):
            for columns in range(1, 7):
                for row in range(rows):
                    for column in range(columns):
                        spot = (row, column)
                        self.assertEqual(frame_of(rows, columns, [spot]), (rows, columns, (spot,)))

    def test_numbers_of_wires_that_are_not_so(self):
        for number in (0, 7, -1, -6, 8, 10 ** 19, -(10 ** 19)):
            self.refused(None, number, 1, [(0, 0)])
            self.refused(None, 1, number, [(0, 0)])
            self.refused(None, number, number, [(0, 0)])

    def test_numbers_of_spots_that_are_not_so(self):
        self.refused(None, 2, 2, [])
        self.refused(None, 6, 6, TWELVE + [(0, 5)])
        self.refused(None, 6, 6, [(row, column) for row in range(6) for column in range(6)])

    def test_spots_that_are_not_within(self):
        for spot in ((2, 0), (0, 3), (-1, 0), (0, -1), (-1, -1), (2, 3), (10 ** 19, 0), (0, 10 ** 19), (2, -1)):
            self.refused(0, 2, 3, [spot])
            self.refused(0, 2, 3, [spot, (0, 0)])
            self.refused(2, 2, 3, [(1, 2), (0, 0), spot])

    def test_spots_of_a_frame_lying_the_other_way(self):
        self.assertEqual(frame_of(2, 3, [(1, 2)]), (2, 3, ((1, 2),)))
        self.refused(0, 2, 3, [(2, 1)])
        self.assertEqual(frame_of(3, 2, [(2, 1)]), (3, 2, ((2, 1),)))
        self.refused(0, 3, 2, [(1, 2)])

    def test_spots_that_were_told_ahead(self):
        self.refused(1, 2, 2, [(0, 0), (0, 0)])
        self.refused(2, 2, 2, [(0, 0), (1, 1), (0, 0), (1, 1)])
        self.refused(11, 6, 6, TWELVE[:11] + [TWELVE[0]])
        self.assertEqual(frame_of(2, 2, [(0, 1), (1, 0)]), (2, 2, ((0, 1), (1, 0))))

    def test_numbers_are_refused_ahead_of_spots(self):
        self.refused(None, 0, 2, [(5, 5)])
        self.refused(None, 2, 7, [(0, 0), (0, 0)])
        self.refused(None, 6, 6, [(9, 9)] + TWELVE)
        self.refused(None, 6, 6, TWELVE + [TWELVE[0]])
        self.refused(None, 0, 0, [])

    def test_the_first_faulty_spot_is_told(self):
        self.refused(1, 2, 2, [(0, 0), (0, 0), (2, 0)])
        self.refused(1, 2, 2, [(0, 0), (2, 0), (0, 0)])
        self.refused(0, 2, 2, [(2, 0), (2, 0)])
        self.refused(1, 2, 2, [(1, 1), (0, 2), (0, -1)])

    def test_the_list_handed_in_stays(self):
        for spots in ([(1, 1), (0, 0)], [(0, 0), (0, 0)], [(0, 0), (7, 7)], []):
            before = list(spots)
            try:
                frame_of(2, 2, spots)
            except NoFrame:
                pass
            self.assertEqual(spots, before)

    def test_the_frame_does_not_hang_on_the_list(self):
        spots = [(1, 1), (0, 0)]
        frame = frame_of(2, 2, spots)
        spots.append((0, 1))
        spots[0] = (1, 0)
        self.assertEqual(frame, (2, 2, ((1, 1), (0, 0))))
        spots.clear()
        self.assertEqual(frame, (2, 2, ((1, 1), (0, 0))))


class Reads(unittest.TestCase):

    def same_as_plain(self, frame, keys):
        reading = reads(frame, keys)
        self.assertEqual(reading, plain_reading(frame, keys), (frame, keys))
        self.assertIs(type(reading), tuple)
        self.assertTrue(all(type(number) is int for number in reading))

    def test_no_key_down(self):
        self.assertEqual(reads((1, 1, ((0, 0),)), ()), (0,))
        self.assertEqual(reads((3, 2, ((0, 0), (2, 1))), ()), (0, 0, 0))

    def test_one_key_down(self):
        self.assertEqual(reads((1, 1, ((0, 0),)), (0,)), (1,))
        self.assertEqual(reads((3, 6, ((0, 0), (2, 5), (1, 3))), (1,)), (0, 0, 32))
        self.assertEqual(reads((3, 6, ((0, 0), (2, 5), (1, 3))), (2,)), (0, 8, 0))

    def test_keys_apart(self):
        self.assertEqual(reads((2, 2, ((0, 0), (1, 1))), (0, 1)), (1, 2))

    def test_one_row_and_one_column(self):
        self.assertEqual(reads((1, 3, ((0, 2), (0, 0), (0, 1))), (0, 1)), (5,))
        self.assertEqual(reads((3, 1, ((0, 0), (1, 0), (2, 0))), (0, 2)), (1, 0, 1))

    def test_three_corners_read_as_four(self):
        frame = (2, 2, ((0, 0), (0, 1), (1, 0), (1, 1)))
        for keys in sets_of(4):
            if len(keys) > 2:
                self.assertEqual(reads(frame, keys), (3, 3))

    def test_hanging_together_over_far_wires(self):
        frame = (3, 3, ((0, 0), (1, 0), (1, 1), (2, 1), (2, 2)))
        self.assertEqual(reads(frame, (0, 1, 2, 3, 4)), (7, 7, 7))
        self.assertEqual(reads(frame, (0, 1, 3, 4)), (1, 1, 6))

    def test_a_chain_over_all_wires_in_any_order(self):
        frame = chain_frame()
        self.assertEqual(reads(frame, tuple(range(12))), (63,) * 6)
        for key in range(12):
            keys = tuple(other for other in range(12) if other != key)
            self.assertEqual(reads(frame, keys), (63,) * 6)

    def test_all_sets_of_small_frames(self):
        for frame in small_frames():
            for keys in sets_of(len(frame[2])):
                self.same_as_plain(frame, keys)

    def test_all_sets_of_a_great_frame(self):
        frame = chain_frame()
        for keys in sets_of(12):
            self.same_as_plain(frame, keys)


if __name__ == "__main__":
    unittest.main()
