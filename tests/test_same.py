"""Two beds that mean the same, or a shortest row of events at which they don't [23], [3]."""

import inspect
import unittest
from itertools import product

from chordbed.beds import checked
from chordbed.errors import BedError, NoKeys, TooMany
from chordbed.plain import play
from chordbed.same import same
from tests.plain_bed import A, B, BELOW, C, D, NONE, REST, all_events, chosen_beds, more_beds
from tests.plain_machine import JUST_400, JUST_401, MANY, folding_beds, plain_rooms, plain_same, sent_from, small_beds

LAYER, OTHER_LAYER = ("layer", 1), ("layer", 2)
ONCE, OTHER_ONCE = ("once", 1), ("once", 2)
TAP = ("tap", "a", 1)


def same_beds():
    """Pairs of unlike beds that mean the same."""
    return [
        # Nothing ever waits, so the wait is no matter.
        ((1, ((A,),), (), 1), (1, ((A,),), (), 4)),
        # No key leads to the other layer.
        ((2, ((A, B),), (), 1), (2, ((A, B), (C, ONCE), (B, NONE)), (), 1)),
        # The order of chords is no matter.
        ((3, ((A, B, C),), (((0, 1), "d"), ((1, 2), "e")), 2), (3, ((A, B, C),), (((1, 2), "e"), ((0, 1), "d")), 2)),
        # What is below is as good as what it stands for.
        ((3, ((LAYER, A, B), (BELOW, BELOW, C)), (), 1), (3, ((LAYER, A, B), (LAYER, A, C)), (), 1)),
        ((2, ((TAP, A), (BELOW, BELOW)), (), 3), (2, ((TAP, A), (BELOW, A)), (), 3)),
        # Layers under other numbers.
        ((2, ((LAYER, A), (BELOW, B)), (), 1), (2, ((OTHER_LAYER, A), (C, C), (BELOW, B)), (), 1)),
        ((3, ((ONCE, OTHER_ONCE, A), (BELOW, BELOW, B), (BELOW, BELOW, C)), (), 1),
         (3, ((OTHER_ONCE, ONCE, A), (BELOW, BELOW, C), (BELOW, BELOW, B)), (), 1)),
        # A layer that is as the first one, and none.
        ((2, ((LAYER, A), (BELOW, BELOW)), (), 1), (2, ((NONE, A),), (), 2)),
        ((2, ((ONCE, A), (BELOW, BELOW)), (), 1), (2, ((NONE, A),), (), 1)),
        ((2, ((ONCE, A), (BELOW, BELOW)), (), 1), (2, ((LAYER, A), (NONE, A)), (), 1)),
        ((3, ((ONCE, ONCE, NONE), (NONE, LAYER, NONE)), (), 1), (3, ((NONE, NONE, NONE),), (), 1)),
        # One and the same.
        ((3, ((A, B, TAP), (C, BELOW, BELOW)), (((0, 1), "d"),), 2),
         (3, ((A, B, TAP), (C, BELOW, BELOW)), (((0, 1), "d"),), 2)),
    ]


def apart_beds():
    """Pairs of beds that don't mean the same, and how long a shortest row is."""
    return [
        ((1, ((A,),), (), 1), (1, ((B,),), (), 1), 1),
        ((1, ((A,),), (), 1), (1, ((NONE,),), (), 1), 1),
        ((2, ((A, B),), (), 1), (2, ((A, A),), (), 1), 1),
        ((2, ((A, A),), (), 1), (2, ((A, NONE),), (), 1), 1),
        # Tapped.
        ((1, ((TAP,), (B,)), (), 2), (1, ((("tap", "b", 1),), (B,)), (), 2), 2),
        # Held, and another key's letter there.
        ((2, ((LAYER, A), (BELOW, B)), (), 1), (2, ((LAYER, A), (BELOW, C)), (), 1), 2),
        ((2, ((LAYER, A), (BELOW, B)), (), 1), (2, ((ONCE, A), (BELOW, B)), (), 1), 3),
        # Held too long to be a tap.
        ((1, ((TAP,), (B,)), (), 1), (1, ((TAP,), (B,)), (), 2), 3),
        ((1, ((TAP,), (B,)), (), 3), (1, ((TAP,), (B,)), (), 4), 5),
        # The letters of a chord's keys that are told late, early, or for another one.
        ((2, ((A, B),), (((0, 1), "c"),), 2), (2, ((A, B),), (((0, 1), "c"),), 3), 3),
        ((2, ((A, B),), (((0, 1), "c"),), 2), (2, ((A, B),), (((0, 1), "d"),), 2), 2),
        ((2, ((A, B),), (((0, 1), "c"),), 2), (2, ((A, B),), (), 2), 1),
        ((3, ((A, B, C),), (((0, 1, 2), "d"),), 4), (3, ((A, B, C),), (((0, 1, 2), "e"),), 4), 3),
        ((3, ((A, B, C),), (((0, 1), "d"), ((0, 1, 2), "a")), 3),
         (3, ((A, B, C),), (((0, 1), "d"), ((0, 1, 2), "b")), 3), 3),
        # Two layers held: the greater one counts.
        ((3, ((LAYER, OTHER_LAYER, A), (BELOW, BELOW, B), (BELOW, BELOW, C)), (), 1),
         (3, ((OTHER_LAYER, LAYER, A), (BELOW, BELOW, C), (BELOW, BELOW, B)), (), 1), 3),
        # A once of a layer that a once leads to.
        ((3, ((ONCE, A, B), (BELOW, OTHER_ONCE, B), (BELOW, BELOW, C)), (), 1),
         (3, ((ONCE, A, B), (BELOW, OTHER_ONCE, B), (BELOW, BELOW, D)), (), 1), 3),
        ((2, ((ONCE, A), (OTHER_ONCE, B), (BELOW, C)), (), 1), (2, ((ONCE, A), (OTHER_ONCE, B), (BELOW, D)), (), 1), 4),
    ]


def changed_beds():
    """Beds beside such as differ from them in one thing, whether that is a matter or not."""
    for number, bed in enumerate(chosen_beds()[:20] + folding_beds() + more_beds()[::6]):
        keys, layers, chords, wait = bed
        yield bed, (keys, layers, chords, wait % 4 + 1)
        yield bed, (keys, layers, chords[1:], wait)
        yield bed, (keys, layers, tuple(reversed(chords)), wait)
        if len(layers) > 1:
            place = number % keys
            top = layers[-1][:place] + ((NONE, B, BELOW, ("tap", "b", 1))[number % 4],) + layers[-1][place + 1:]
            yield bed, (keys, layers[:-1] + (top,), chords, wait)
            told = [layers[0][key] if layers[-1][key] == BELOW else layers[-1][key] for key in range(keys)]
            yield bed, (keys, layers[:-1] + (tuple(told),), chords, wait)


class Told(unittest.TestCase):

    def holds(self, one, other):
        """What is told of two beds is as the plain telling has it; told back is the word."""
        pairs, length = plain_same(one, other)
        answer = same(one, other, len(pairs))
        self.assertIs(type(answer), tuple)
        self.assertEqual(len(answer), 2)
        word, told = answer
        self.assertIs(type(told), list)
        if word == "same":
            self.assertIsNone(length, (one, other))
            self.assertEqual(len(told), len(pairs))
            self.assertEqual(set(told), pairs)
        else:
            self.assertEqual(word, "apart")
            self.assertEqual(len(told), length, (one, other, told))
            self.assertNotEqual(sent_from(one, REST, told)[-1], sent_from(other, REST, told)[-1], (one, other, told))
            for event in told:
                self.assertIn(event, all_events(one))
        return word

    def test_a_bed_and_itself(self):
        for bed in chosen_beds() + folding_beds():
            word, pairs = same(bed, bed, MANY)
            self.assertEqual(word, "same")
            expected = [(room[0], room[0]) for room in plain_rooms(bed)]
            self.assertEqual(sorted(pairs, key=repr), sorted(expected, key=repr))

    def test_a_bed_of_one_letter(self):
        standing = (((0, A),), None, None)
        word, pairs = same((1, ((A,),), (), 1), (1, ((A,),), (), 2))
        self.assertEqual(word, "same")
        self.assertIn(pairs, ([(REST, REST), (standing, standing)], [(standing, standing), (REST, REST)]))

    def test_unlike_standings_in_a_pair(self):
        word, pairs = same((1, ((LAYER,), (A,)), (), 1), (1, ((NONE,),), (), 1))
        self.assertEqual(word, "same")
        held = ((((0, LAYER),), None, None), (((0, NONE),), None, None))
        self.assertEqual(len(pairs), 2)
        self.assertEqual(set(pairs), {(REST, REST), held})

    def test_beds_that_mean_the_same(self):
        for one, other in same_beds():
            self.assertEqual((checked(one), checked(other)), (one, other))
            self.assertEqual(self.holds(one, other), "same", (one, other))
            self.assertEqual(self.holds(other, one), "same", (one, other))

    def test_pairs_are_the_one_beds_standing_first(self):
        for one, other in same_beds():
            there = same(one, other)[1]
            back = same(other, one)[1]
            self.assertEqual({(second, first) for first, second in there}, set(back))

    def test_more_pairs_than_either_has_rooms(self):
        one = (2, ((ONCE, A), (BELOW, BELOW)), (), 1)
        other = (2, ((A, ONCE), (BELOW, BELOW)), (), 1)
        self.assertEqual(self.holds(one, other), "apart")
        one = (2, ((ONCE, NONE), (BELOW, BELOW)), (), 1)
        other = (2, ((NONE, ONCE), (BELOW, BELOW)), (), 1)
        self.assertEqual(self.holds(one, other), "same")
        self.assertGreater(len(same(one, other)[1]), len(plain_rooms(one)))

    def test_beds_that_are_apart(self):
        for one, other, length in apart_beds():
            self.assertEqual((checked(one), checked(other)), (one, other))
            self.assertEqual(self.holds(one, other), "apart", (one, other))
            self.assertEqual(self.holds(other, one), "apart", (one, other))
            self.assertEqual(len(same(one, other)[1]), length, (one, other))

    def test_no_shorter_row_sends_unlike_things(self):
        for one, other, length in apart_beds():
            for row in product(all_events(one), repeat=min(length - 1, 3)):
                self.assertEqual(play(one, list(row))[0], play(other, list(row))[0])

    def test_beds_that_differ_in_one_thing(self):
        words = [self.holds(one, other) for one, other in changed_beds()]
        self.assertGreater(words.count("same"), 20)
        self.assertGreater(words.count("apart"), 20)

    def test_small_beds_beside_each_other(self):
        beds = small_beds()
        words = []
        for keys, stride in ((1, 1), (2, 7)):
            some = [bed for bed in beds if bed[0] == keys]
            words += [self.holds(one, other) for one, other in list(product(some, repeat=2))[::stride]]
        self.assertGreater(words.count("same"), 20)
        self.assertGreater(words.count("apart"), 20)

    def test_nothing_is_changed_and_the_lists_are_the_askers_own(self):
        for one, other in (same_beds()[3], apart_beds()[8][:2]):
            first = same(one, other)
            kept = (first[0], list(first[1]))
            first[1].clear()
            self.assertEqual(same(one, other), kept)
            again = [same_beds()[3], apart_beds()[8][:2]]
            self.assertIn((one, other), again)


class Refused(unittest.TestCase):

    def too_many(self, one, other, most):
        with self.assertRaises(TooMany) as caught:
            same(one, other, most)
        self.assertEqual(caught.exception.most, most)
        self.assertIsInstance(caught.exception, BedError)

    def test_other_numbers_of_keys(self):
        for keys, others in product(range(1, 6), repeat=2):
            one, other = [(number, ((A,) * number,), (), 1) for number in (keys, others)]
            if keys == others:
                self.assertEqual(same(one, other)[0], "same")
                continue
            with self.assertRaises(NoKeys) as caught:
                same(one, other)
            self.assertIsInstance(caught.exception, BedError)

    def test_other_numbers_of_keys_that_do_nothing_more(self):
        with self.assertRaises(NoKeys):
            same((1, ((A,),), (), 1), (2, ((A, NONE),), (), 1))
        with self.assertRaises(NoKeys):
            same((2, ((NONE, NONE),), (), 1), (1, ((NONE,),), (), 1))

    def test_no_keys_ahead_of_too_many(self):
        for most in (0, 1):
            with self.assertRaises(NoKeys):
                same((2, ((A, B),), (), 1), (3, ((A, B, C),), (), 1), most)

    def test_too_many_just_where_there_are_more(self):
        for one, other in same_beds() + [(bed, bed) for bed in chosen_beds()[:20]]:
            count = len(plain_same(one, other)[0])
            self.assertEqual(len(same(one, other, count)[1]), count)
            self.assertEqual(len(same(one, other, count + 1)[1]), count)
            self.too_many(one, other, count - 1)
            self.too_many(one, other, count // 2)
            self.too_many(one, other, 0)

    def test_four_hundred_by_itself(self):
        self.assertEqual(inspect.signature(same).parameters["most"].default, 400)
        for bed in JUST_400:
            self.assertEqual(len(same(bed, bed)[1]), 400)
        for bed in JUST_401:
            with self.assertRaises(TooMany) as caught:
                same(bed, bed)
            self.assertEqual(caught.exception.most, 400)
            self.assertEqual(len(same(bed, bed, most=401)[1]), 401)

    def test_beds_apart_tell_the_row_or_are_refused_each_time_the_same_way(self):
        for one, other, length in apart_beds():
            count = len(plain_same(one, other)[0])
            for most in range(min(count, 30)):
                answers = []
                for time in range(2):
                    try:
                        word, row = same(one, other, most)
                        self.assertEqual((word, len(row)), ("apart", length))
                        answers.append(row)
                    except TooMany as error:
                        self.assertEqual(error.most, most)
                        answers.append(None)
                self.assertEqual(answers[0], answers[1])


if __name__ == "__main__":
    unittest.main()
