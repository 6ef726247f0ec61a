"""Scans: what a teller tells turn by turn [10], and what follows from it [11], [3]."""

import unittest
from itertools import product

from chordbed.errors import BedError, NoReading
from chordbed.scans import Teller
from tests.plain_search import plain_reading, plain_told, plain_word, sets_by_reading, small_frames

ONE = (1, 1, ((0, 0),))
THREE = (1, 3, ((0, 0), (0, 1), (0, 2)))
SQUARE = (2, 2, ((0, 0), (0, 1), (1, 0), (1, 1)))
# Three corners of a square with a fourth, and a key that never is unsure beside them.
BESIDE = (3, 3, ((0, 0), (0, 1), (2, 2), (1, 0), (1, 1)))


def scanned(frame, bound, readings):
    """What a new teller tells of a row of readings."""
    teller = Teller(frame, bound)
    return [teller.scan(reading) for reading in readings]


def words_by_reading(frame):
    """For each reading that can be, what a plain search tells of each key."""
    return {
        reading: [plain_word(frame, alike[0], alike, key) for key in range(len(frame[2]))]
        for reading, alike in sets_by_reading(frame).items()
    }


def plain_scans(words, bound, readings):
    """What [10] says, key by key: all readings so far, an unsure one as what was told last."""
    answers = [[] for reading in readings]
    keys = range(len(words[readings[0]])) if readings else ()
    for key in keys:
        numbers = []
        for reading in readings:
            told_before = plain_told(numbers, bound)
            last = 1 if told_before and told_before[-1][1] == "down" else 0
            numbers.append({"up": 0, "sure": 1, "unsure": last}[words[reading][key]])
        for turn, word in plain_told(numbers, bound):
            answers[turn].append((word, key))
    return answers


def some_rows(readings, length):
    """All short rows of readings, or, where they would be too many, a fixed share of them."""
    count = len(readings) ** length
    for number in range(0, count, count // 300 | 1):
        row = []
        for turn in range(length):
            row.append(readings[number % len(readings)])
            number //= len(readings)
        yield row


class Scans(unittest.TestCase):

    def test_at_first_all_are_up(self):
        for frame in (ONE, THREE, SQUARE):
            self.assertEqual(Teller(frame, 0).down(), ())
            self.assertEqual(scanned(frame, 0, [(0,) * frame[0]] * 3), [[], [], []])

    def test_one_key_without_a_bound(self):
        self.assertEqual(scanned(ONE, 0, [(1,), (1,), (0,), (1,)]), [[("down", 0)], [], [("up", 0)], [("down", 0)]])

    def test_one_key_with_a_bound(self):
        answers = scanned(ONE, 3, [(0,), (1,), (0,), (1,), (0,), (0,), (1,), (1,)])
        self.assertEqual(answers, [[], [("down", 0)], [], [], [("up", 0)], [], [], [("down", 0)]])

    def test_just_as_many_turns_as_the_bound(self):
        self.assertEqual(scanned(ONE, 2, [(1,), (0,), (0,)]), [[("down", 0)], [], [("up", 0)]])
        self.assertEqual(scanned(ONE, 3, [(1,), (0,), (0,)]), [[("down", 0)], [], []])

    def test_the_first_change_waits_for_nothing(self):
        self.assertEqual(scanned(ONE, 10 ** 19, [(1,), (0,)]), [[("down", 0)], []])

    def test_changes_come_by_keys(self):
        self.assertEqual(
            scanned(THREE, 0, [(2,), (5,), (6,), (0,)]),
            [
                [("down", 1)], [("down", 0), ("up", 1), ("down", 2)], [("up", 0), ("down", 1)],
                [("up", 1), ("up", 2)],
            ],
        )
        frame = (1, 3, ((0, 2), (0, 0), (0, 1)))
        self.assertEqual(scanned(frame, 0, [(7,), (2,)]), [
            [("down", 0), ("down", 1), ("down", 2)], [("up", 0), ("up", 1)],
        ])

    def test_each_key_has_a_bound_of_its_own(self):
        answers = scanned(THREE, 2, [(1,), (2,), (2,), (0,)])
        self.assertEqual(answers, [[("down", 0)], [("down", 1)], [("up", 0)], [("up", 1)]])

    def test_keys_told_down(self):
        teller = Teller(THREE, 2)
        found = []
        for reading in ((4,), (5,), (1,), (0,), (0,)):
            teller.scan(reading)
            found.append(teller.down())
        self.assertEqual(found, [(2,), (0, 2), (0,), (), ()])

    def test_asking_for_the_keys_is_no_turn(self):
        teller = Teller(ONE, 2)
        teller.scan((1,))
        for number in range(5):
            self.assertEqual(teller.down(), (0,))
        self.assertEqual([teller.scan((0,)), teller.scan((0,))], [[], [("up", 0)]])

    def test_kinds(self):
        teller = Teller(THREE, 0)
        answer = teller.scan((5,))
        self.assertIs(type(answer), list)
        for change in answer:
            self.assertEqual((type(change), type(change[0]), type(change[1])), (tuple, str, int))
        self.assertIs(type(teller.down()), tuple)
        self.assertTrue(all(type(key) is int for key in teller.down()))

    def test_a_long_row(self):
        answers = scanned(ONE, 7, [(1,), (0,)] * 100)
        changes = [turn for turn, answer in enumerate(answers) if answer]
        self.assertEqual(changes, list(range(0, 200, 7)))
        self.assertEqual(sum(answers, []), [(("down", "up")[number % 2], 0) for number in range(len(changes))])


class Unsure(unittest.TestCase):

    def test_unsure_keys_that_were_up_stay_up(self):
        self.assertEqual(scanned(SQUARE, 0, [(3, 3), (3, 3), (0, 0)]), [[], [], []])

    def test_unsure_keys_that_were_down_stay_down(self):
        teller = Teller(SQUARE, 0)
        self.assertEqual(teller.scan((3, 0)), [("down", 0), ("down", 1)])
        self.assertEqual(teller.scan((3, 3)), [])
        self.assertEqual(teller.down(), (0, 1))
        self.assertEqual(teller.scan((0, 3)), [("up", 0), ("up", 1), ("down", 2), ("down", 3)])
        self.assertEqual(teller.scan((3, 3)), [])
        self.assertEqual(teller.down(), (2, 3))

    def test_an_unsure_turn_is_a_turn(self):
        answers = scanned(SQUARE, 3, [(1, 0), (3, 3), (3, 3), (0, 0)])
        self.assertEqual(answers, [[("down", 0)], [], [], [("up", 0)]])
        answers = scanned(SQUARE, 4, [(1, 0), (3, 3), (3, 3), (0, 0), (0, 0)])
        self.assertEqual(answers, [[("down", 0)], [], [], [], [("up", 0)]])

    def test_keys_beside_unsure_ones_are_told(self):
        self.assertEqual(scanned(BESIDE, 0, [(3, 3, 4), (3, 3, 0)]), [[("down", 2)], [("up", 2)]])

    def test_three_corners_without_a_fourth_are_sure(self):
        frame = (2, 2, ((0, 0), (0, 1), (1, 0)))
        self.assertEqual(scanned(frame, 0, [(3, 3)]), [[("down", 0), ("down", 1), ("down", 2)]])


class Refused(unittest.TestCase):

    def refused(self, teller, reading):
        with self.assertRaises(NoReading, msg=reading) as caught:
            teller.scan(reading)
        self.assertIsInstance(caught.exception, BedError)

    def test_readings_that_can_not_be(self):
        for reading in ((), (0,), (0, 0, 0), (4, 0), (-1, 0), (0, 10 ** 19), (3, 1), (2, 3)):
            teller = Teller(SQUARE, 0)
            self.refused(teller, reading)
            self.assertEqual(teller.down(), ())
        self.refused(Teller((2, 2, ((0, 0), (1, 1))), 0), (2, 0))

    def test_a_refused_reading_is_no_turn(self):
        for reading in ((3, 1), (1,), (4, 0), (-1, -1)):
            teller = Teller(SQUARE, 2)
            self.refused(teller, reading)
            self.assertEqual(teller.scan((1, 0)), [("down", 0)])
            self.refused(teller, reading)
            self.refused(teller, reading)
            self.assertEqual(teller.down(), (0,))
            self.assertEqual(teller.scan((0, 0)), [])
            self.refused(teller, reading)
            self.assertEqual(teller.scan((0, 0)), [("up", 0)])

    def test_a_refused_reading_tells_no_key(self):
        # Key 0 would be down in the first row, which by itself could be.
        teller = Teller(SQUARE, 0)
        self.refused(teller, (1, 4))
        self.assertEqual(teller.down(), ())
        self.assertEqual(teller.scan((1, 0)), [("down", 0)])
        self.refused(teller, (0, 7))
        self.assertEqual(teller.down(), (0,))

    def test_rows_with_refused_readings_tell_what_those_without_do(self):
        readings = [(1, 0), (1, 2), (3, 3), (0, 0), (0, 1), (0, 0), (2, 1)]
        for bound in range(4):
            teller = Teller(SQUARE, bound)
            answers = []
            for reading in readings:
                self.refused(teller, (3, 2))
                answers.append(teller.scan(reading))
            self.assertEqual(answers, scanned(SQUARE, bound, readings))


class AgainstThePlainWords(unittest.TestCase):

    def test_rows_of_readings_of_small_frames(self):
        for frame in small_frames():
            words = words_by_reading(frame)
            for length in (1, 2, 3, 5):
                for readings in some_rows(sorted(words), length):
                    for bound in (0, 1, 2, 4):
                        answers = scanned(frame, bound, readings)
                        self.assertEqual(answers, plain_scans(words, bound, readings), (frame, bound, readings))

    def test_keys_told_down_are_those_whose_last_word_is_down(self):
        for frame in (SQUARE, BESIDE):
            for readings in some_rows(sorted(sets_by_reading(frame)), 4):
                teller = Teller(frame, 1)
                last = {}
                for reading in readings:
                    last.update({key: word for word, key in teller.scan(reading)})
                    self.assertEqual(teller.down(), tuple(sorted(key for key in last if last[key] == "down")))

    def test_told_down_only_where_in_each_set_and_up_only_where_in_none(self):
        for frame in small_frames():
            alike = sets_by_reading(frame)
            for readings in some_rows(sorted(alike), 3):
                for bound in (0, 2):
                    for reading, answer in zip(readings, scanned(frame, bound, readings)):
                        for word, key in answer:
                            holding = [key in keys for keys in alike[reading]]
                            self.assertTrue(all(holding) if word == "down" else not any(holding))


class ThroughBounces(unittest.TestCase):
    """Keys that truly change, with bounces, read as a frame reads them."""

    def true_and_bouncing(self, changes, bound, turn, bounce):
        """Whether a key's contact is closed in a turn: any way (bounce) right behind a change."""
        if any(change <= turn < change + bound for change in changes):
            return bounce
        return sum(change <= turn for change in changes) % 2 == 1

    def each_change_once(self, answers, key, changes, bound):
        found = [(turn, word) for turn, answer in enumerate(answers) for word, told in answer if told == key]
        self.assertEqual([word for turn, word in found], [("down", "up")[n % 2] for n in range(len(changes))])
        for change, (turn, word) in zip(changes, found):
            self.assertTrue(change <= turn <= change + bound, (found, changes, bound))

    def test_keys_that_never_are_unsure(self):
        frame = (3, 3, ((0, 0), (1, 0), (1, 1), (2, 1)))
        for bound in range(4):
            near = bound + 1
            schedule = {0: [0, near, 3 * near], 1: [1, 1 + near], 2: [2], 3: []}
            for bounces in product((False, True), repeat=6):
                readings = []
                for turn in range(5 * near + 3):
                    down = [
                        key for key in schedule
                        if self.true_and_bouncing(schedule[key], bound, turn, bounces[(turn + key) % 6])
                    ]
                    readings.append(plain_reading(frame, down))
                answers = scanned(frame, bound, readings)
                for key in schedule:
                    self.each_change_once(answers, key, schedule[key], bound)

    def test_a_key_that_never_is_unsure_beside_others_that_are(self):
        for bound in range(4):
            changes = [1, 2 + bound, 4 + 2 * bound]
            for bounces in product((False, True), repeat=4):
                readings = []
                for turn in range(6 + 3 * bound):
                    down = [0, 1, 3, 4][:turn % 5]
                    if self.true_and_bouncing(changes, bound, turn, bounces[turn % 4]):
                        down.append(2)
                    readings.append(plain_reading(BESIDE, down))
                self.each_change_once(scanned(BESIDE, bound, readings), 2, changes, bound)


class AskersOwn(unittest.TestCase):

    def test_each_list_is_the_askers_own(self):
        teller = Teller(THREE, 0)
        first = teller.scan((3,))
        second = teller.scan((3,))
        second.append("more")
        third = teller.scan((4,))
        self.assertEqual(first, [("down", 0), ("down", 1)])
        first.clear()
        self.assertEqual(third, [("up", 0), ("up", 1), ("down", 2)])
        third.clear()
        self.assertEqual(teller.scan((4,)), [])
        self.assertEqual(teller.down(), (2,))

    def test_a_set_told_before_stays(self):
        teller = Teller(THREE, 0)
        teller.scan((3,))
        before = teller.down()
        teller.scan((4,))
        self.assertEqual((before, teller.down()), ((0, 1), (2,)))

    def test_tellers_keep_apart(self):
        one, other = Teller(THREE, 1), Teller(THREE, 1)
        one.scan((7,))
        self.assertEqual((one.down(), other.down()), ((0, 1, 2), ()))
        self.assertEqual(other.scan((1,)), [("down", 0)])
        self.assertEqual(one.down(), (0, 1, 2))


if __name__ == "__main__":
    unittest.main()
