"""Readings: their pieces [6], what is seen in them and why [7]."""

import unittest

from chordbed.errors import BedError, NoReading
from chordbed.readings import pieces, seen, why
from tests.plain_search import (
    all_numbers, chain_frame, hangs_with, numbers_of, plain_pieces, plain_reading, plain_word, sets_by_reading,
    small_frames,
)

SQUARE = (2, 2, ((0, 0), (0, 1), (1, 0), (1, 1)))


def askers(frame, reading):
    """Each way in which a reading is asked about."""
    yield lambda: pieces(frame, reading)
    yield lambda: seen(frame, reading)
    for key in range(len(frame[2])):
        yield lambda key=key: why(frame, reading, key)


class Refused(unittest.TestCase):

    def refused(self, frame, reading):
        for ask in askers(frame, reading):
            with self.assertRaises(NoReading, msg=(frame, reading)) as caught:
                ask()
            self.assertIsInstance(caught.exception, BedError)

    def test_too_few_numbers(self):
        self.refused(SQUARE, ())
        self.refused(SQUARE, (0,))
        self.refused(SQUARE, (3,))
        self.refused((6, 1, ((0, 0),)), (1, 0, 0, 0, 0))

    def test_too_many_numbers(self):
        self.refused(SQUARE, (0, 0, 0))
        self.refused(SQUARE, (1, 2, 0))
        self.refused((1, 1, ((0, 0),)), (1, 0))

    def test_numbers_out_of_bounds(self):
        for number in (-1, -4, 4, 5, 7, 8, 10 ** 19, -(10 ** 19)):
            self.refused(SQUARE, (number, 0))
            self.refused(SQUARE, (0, number))
            self.refused(SQUARE, (3, number))
            self.refused(SQUARE, (number, number))
        self.refused((1, 6, ((0, 0),)), (64,))
        self.refused((1, 6, ((0, 0),)), (65,))
        self.refused((1, 1, ((0, 0),)), (2,))

    def test_a_row_without_keys_has_bounds_too(self):
        frame = (2, 1, ((0, 0),))
        self.refused(frame, (0, 2))
        self.refused(frame, (1, -1))

    def test_rows_that_share_a_column_and_read_unlike(self):
        self.refused(SQUARE, (3, 1))
        self.refused(SQUARE, (2, 3))
        self.refused((3, 3, ((0, 0), (0, 1), (1, 1), (1, 2), (2, 2))), (3, 6, 0))

    def test_a_column_to_which_no_key_leads(self):
        self.refused((2, 2, ((0, 0), (1, 1))), (2, 0))
        self.refused((2, 2, ((0, 0), (1, 1))), (3, 0))
        self.refused((1, 3, ((0, 0), (0, 2))), (2,))

    def test_rows_read_alike_that_no_keys_join(self):
        self.refused((2, 2, ((0, 0), (1, 1))), (3, 3))
        self.refused((2, 4, ((0, 0), (0, 1), (1, 2), (1, 3))), (15, 15))

    def test_all_tuples_of_numbers_of_small_frames(self):
        for frame in small_frames():
            can_be = sets_by_reading(frame)
            for reading in all_numbers(frame):
                if reading not in can_be:
                    self.refused(frame, reading)


class Pieces(unittest.TestCase):

    def test_none_where_nothing_is_read(self):
        self.assertEqual(pieces(SQUARE, (0, 0)), [])
        self.assertEqual(pieces((1, 1, ((0, 0),)), (0,)), [])

    def test_one(self):
        self.assertEqual(pieces((1, 1, ((0, 0),)), (1,)), [((0,), (0,))])
        self.assertEqual(pieces(SQUARE, (0, 2)), [((1,), (1,))])
        self.assertEqual(pieces(SQUARE, (3, 3)), [((0, 1), (0, 1))])
        self.assertEqual(pieces((1, 6, ((0, 5), (0, 0))), (33,)), [((0,), (0, 5))])

    def test_several_are_sorted_by_their_rows(self):
        frame = (4, 3, ((3, 0), (2, 1), (1, 0), (0, 2), (3, 2)))
        self.assertEqual(pieces(frame, (4, 1, 2, 1)), [((0,), (2,)), ((1, 3), (0,)), ((2,), (1,))])
        self.assertEqual(pieces(SQUARE, (2, 1)), [((0,), (1,)), ((1,), (0,))])

    def test_rows_that_read_nothing_are_in_none(self):
        frame = (3, 2, ((0, 0), (1, 0), (2, 1), (2, 0)))
        self.assertEqual(pieces(frame, (1, 0, 1)), [((0, 2), (0,))])

    def test_small_frames_against_a_plain_search(self):
        for frame in small_frames():
            for reading, alike in sets_by_reading(frame).items():
                found = pieces(frame, reading)
                for keys in alike:
                    self.assertEqual(found, plain_pieces(frame, keys), (frame, reading))
                self.of_their_kinds(found)

    def of_their_kinds(self, found):
        self.assertIs(type(found), list)
        for piece in found:
            self.assertIs(type(piece), tuple)
            self.assertEqual([type(wires) for wires in piece], [tuple, tuple])
            for wires in piece:
                self.assertTrue(all(type(wire) is int for wire in wires))

    def test_each_list_is_the_askers_own(self):
        first = pieces(SQUARE, (1, 2))
        second = pieces(SQUARE, (1, 2))
        first.append("more")
        first[0] = None
        pieces(SQUARE, (3, 3))
        self.assertEqual(second, [((0,), (0,)), ((1,), (1,))])
        self.assertEqual(pieces(SQUARE, (1, 2)), [((0,), (0,)), ((1,), (1,))])


class Seen(unittest.TestCase):

    def test_all_up(self):
        self.assertEqual(seen(SQUARE, (0, 0)), ("up",) * 4)

    def test_sure_ones(self):
        self.assertEqual(seen((1, 1, ((0, 0),)), (1,)), ("sure",))
        self.assertEqual(seen(SQUARE, (1, 2)), ("sure", "up", "up", "sure"))
        self.assertEqual(seen(SQUARE, (1, 1)), ("sure", "up", "sure", "up"))

    def test_unsure_ones(self):
        self.assertEqual(seen(SQUARE, (3, 3)), ("unsure",) * 4)
        self.assertEqual(seen(chain_frame(), (63,) * 6), ("unsure",) * 12)

    def test_three_corners_alone_are_sure(self):
        self.assertEqual(seen((2, 2, ((0, 0), (0, 1), (1, 0))), (3, 3)), ("sure",) * 3)

    def test_all_three_words_in_one_reading(self):
        frame = (3, 3, ((0, 0), (0, 1), (1, 0), (1, 1), (1, 2), (2, 2)))
        self.assertEqual(seen(frame, (7, 7, 0)), ("unsure",) * 4 + ("sure", "up"))

    def test_small_frames_against_a_plain_search(self):
        for frame in small_frames() + [chain_frame()]:
            for reading, alike in sets_by_reading(frame).items():
                words = [plain_word(frame, alike[0], alike, key) for key in range(len(frame[2]))]
                self.assertEqual(seen(frame, reading), tuple(words), (frame, reading))


class Why(unittest.TestCase):

    def test_up(self):
        self.assertIsNone(why(SQUARE, (0, 0), 0))
        self.assertIsNone(why(SQUARE, (1, 2), 1))

    def test_a_sure_one_whose_row_reads_nothing_else(self):
        self.assertEqual(why((1, 1, ((0, 0),)), (1,), 0), ((0,), ()))
        self.assertEqual(why(SQUARE, (1, 2), 3), ((1,), ()))
        self.assertEqual(why(SQUARE, (1, 0), 0), ((0,), ()))

    def test_a_sure_one_with_wires_beside_it(self):
        frame = (3, 3, ((0, 0), (1, 0), (1, 1), (2, 1), (2, 2)))
        self.assertEqual(why(frame, (7, 7, 7), 0), ((0,), ()))
        self.assertEqual(why(frame, (7, 7, 7), 1), ((1, 2), (1, 2)))
        self.assertEqual(why(frame, (7, 7, 7), 2), ((0, 1), (0,)))
        self.assertEqual(why(frame, (7, 7, 7), 3), ((2,), (2,)))
        self.assertEqual(why(frame, (7, 7, 7), 4), ((0, 1, 2), (0, 1)))

    def test_wires_of_its_own_piece_alone(self):
        frame = (3, 3, ((0, 0), (1, 1), (2, 2), (1, 2)))
        self.assertEqual(why(frame, (1, 6, 6), 1), ((1, 2), (2,)))
        self.assertEqual(why(frame, (1, 6, 6), 0), ((0,), ()))

    def test_an_unsure_one(self):
        self.assertEqual(why(SQUARE, (3, 3), 2), ((0, 1, 2, 3), (0, 1, 3)))
        self.assertEqual(why(SQUARE, (3, 3), 0), ((0, 1, 2, 3), (1, 2, 3)))

    def test_an_unsure_one_beside_another_piece(self):
        frame = (3, 3, ((0, 0), (0, 1), (1, 0), (1, 1), (2, 2), (2, 1)))
        self.assertEqual(why(frame, (3, 3, 4), 1), ((0, 1, 2, 3, 4), (0, 2, 3, 4)))

    def test_small_frames_against_the_words_of_the_document(self):
        for frame in small_frames() + [chain_frame()]:
            for reading, alike in sets_by_reading(frame).items():
                self.held_against_the_words(frame, reading, alike)

    def held_against_the_words(self, frame, reading, alike):
        words = [plain_word(frame, alike[0], alike, key) for key in range(len(frame[2]))]
        not_up = tuple(key for key, word in enumerate(words) if word != "up")
        for key, word in enumerate(words):
            answer = why(frame, reading, key)
            others = tuple(other for other in not_up if other != key)
            if word == "up":
                self.assertIsNone(answer)
                continue
            self.assertEqual([type(answer)] + [type(half) for half in answer], [tuple] * 3)
            if word == "unsure":
                self.assertEqual(answer, (not_up, others))
                self.assertEqual([plain_reading(frame, keys) for keys in answer], [reading, reading])
            else:
                self.wires_cut_off(frame, others, key, answer)

    def wires_cut_off(self, frame, others, key, answer):
        row, column = frame[2][key]
        wires = hangs_with(frame, others, ("row", row))
        self.assertEqual(answer, (numbers_of(wires, "row"), numbers_of(wires, "column")))
        self.assertIn(row, answer[0])
        self.assertNotIn(column, answer[1])


if __name__ == "__main__":
    unittest.main()
