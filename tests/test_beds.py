"""Beds [12] and what is refused of them [13]."""

import unittest
from itertools import combinations

from chordbed.beds import checked
from chordbed.errors import BedError, NoBed, NoChord
from tests.refusals import refusal_of

A = ("letter", "a")
NO_LETTERS = ("", "A", "Z", "ab", "aa", "1", " ", "a ", "`", "{", "~", ".", "\n")
FIVE = (
    5,
    (
        (A, ("letter", "b"), ("letter", "z"), ("tap", "d", 1), ("once", 2)),
        (("below",), ("none",), ("layer", 2), ("letter", "e"), ("tap", "a", 2)),
        (("once", 1), ("below",), ("below",), ("layer", 1), ("none",)),
    ),
    (((0, 1), "x"), ((0, 1, 2), "y"), ((0, 2), "x"), ((1, 2), "a")),
    4,
)


def with_part(bed, place, part):
    """A bed with another part at that place."""
    return bed[:place] + (part,) + bed[place + 1:]


def with_meaning(bed, layer, key, meaning):
    """A bed with another meaning there."""
    return with_part(bed, 1, with_part(bed[1], layer, with_part(bed[1][layer], key, meaning)))


def with_chord(bed, place, chord):
    """A bed with another chord there."""
    return with_part(bed, 2, with_part(bed[2], place, chord))


class Checked(unittest.TestCase):

    def test_the_bed_that_is_handed(self):
        for bed in (FIVE, (1, ((A,),), (), 1)):
            answer = checked(bed)
            self.assertEqual(answer, bed)
            self.assertIs(type(answer), tuple)

    def test_each_number_of_keys_layers_chords_and_turns(self):
        sets = [keys for size in (2, 3, 4, 5) for keys in combinations(range(5), size)]
        for keys in range(1, 6):
            for layers in range(1, 4):
                for wait in range(1, 5):
                    bed = (keys, ((A,) * keys,) + ((("below",),) * keys,) * (layers - 1), (), wait)
                    self.assertEqual(checked(bed), bed)
        for count in range(5):
            for start in range(len(sets) - count):
                bed = (5, ((A,) * 5,), tuple((keys, "q") for keys in sets[start:start + count]), 2)
                self.assertEqual(checked(bed), bed)

    def test_each_letter(self):
        for letter in "abcdefghijklmnopqrstuvwxyz":
            bed = (2, ((("letter", letter), A), (A, ("tap", letter, 1))), (((0, 1), letter),), 1)
            self.assertEqual(checked(bed), bed)

    def test_chords_may_have_letters_of_keys_and_of_one_another(self):
        bed = (3, ((A, A, A),), (((0, 1), "a"), ((1, 2), "a")), 1)
        self.assertEqual(checked(bed), bed)

    def test_chords_one_within_another_in_any_order(self):
        for chords in ((((0, 1), "x"), ((0, 1, 2), "y")), (((0, 1, 2), "y"), ((0, 1), "x"))):
            bed = (3, ((A, A, A),), chords, 1)
            self.assertEqual(checked(bed), bed)

    def test_a_layer_may_lead_to_itself(self):
        bed = (3, ((A, A, A), (("layer", 1), ("once", 1), ("tap", "a", 1))), (), 1)
        self.assertEqual(checked(bed), bed)


class Refused(unittest.TestCase):

    def no_bed(self, layer, key, bed):
        with self.assertRaises(NoBed, msg=bed) as caught:
            checked(bed)
        self.assertEqual((caught.exception.layer, caught.exception.key), (layer, key), bed)
        self.assertIsInstance(caught.exception, BedError)

    def no_chord(self, place, bed):
        with self.assertRaises(NoChord, msg=bed) as caught:
            checked(bed)
        self.assertEqual(caught.exception.place, place, bed)
        self.assertIsInstance(caught.exception, BedError)

    def test_numbers_of_keys(self):
        for keys in (0, -1, 6, 7, 10 ** 19, -(10 ** 19)):
            self.no_bed(None, None, with_part(FIVE, 0, keys))
        self.no_bed(None, None, (0, ((),), (), 1))
        self.no_bed(None, None, (6, ((A,) * 6,), (), 1))

    def test_numbers_of_layers(self):
        self.no_bed(None, None, (1, (), (), 1))
        self.no_bed(None, None, (1, ((A,),) * 4, (), 1))
        self.no_bed(None, None, (2, (), (((0, 1), "a"),), 1))

    def test_numbers_of_chords(self):
        sets = tuple(combinations(range(5), 2))
        self.no_bed(None, None, (5, ((A,) * 5,), tuple((keys, "a") for keys in sets[:5]), 1))
        self.no_bed(None, None, with_part(FIVE, 2, FIVE[2] + FIVE[2]))

    def test_numbers_of_turns(self):
        for wait in (0, -1, 5, 6, 10 ** 19, -(10 ** 19)):
            self.no_bed(None, None, with_part(FIVE, 3, wait))

    def test_layers_without_a_meaning_for_each_key(self):
        for layer in range(3):
            for meanings in ((), FIVE[1][layer][:4], FIVE[1][layer] + (A,)):
                self.no_bed(layer, None, with_part(FIVE, 1, with_part(FIVE[1], layer, meanings)))
        # As many meanings as keys in all, but not on each layer.
        self.no_bed(0, None, (2, ((A, A, A), (A,)), (), 1))

    def test_letters_that_are_none(self):
        for letter in NO_LETTERS:
            for layer in range(3):
                for key in range(5):
                    self.no_bed(layer, key, with_meaning(FIVE, layer, key, ("letter", letter)))
                    self.no_bed(layer, key, with_meaning(FIVE, layer, key, ("tap", letter, 1)))

    def test_layers_that_are_none(self):
        for count in (1, 2, 3):
            layers = ((A, A),) * count
            for number in (-1, 0, 1, 2, 3, 4, 10 ** 19, -(10 ** 19)):
                for meaning in (("layer", number), ("tap", "t", number), ("once", number)):
                    for layer in range(count):
                        bed = with_meaning((2, layers, (), 1), layer, 1, meaning)
                        if 1 <= number <= count - 1:
                            self.assertEqual(checked(bed), bed)
                        else:
                            self.no_bed(layer, 1, bed)

    def test_a_tap_with_a_letter_and_a_layer_that_are_none(self):
        self.no_bed(1, 2, with_meaning(FIVE, 1, 2, ("tap", "A", 0)))

    def test_below_on_layer_0(self):
        self.no_bed(0, 0, (1, ((("below",),),), (), 1))
        for key in range(5):
            self.no_bed(0, key, with_meaning(FIVE, 0, key, ("below",)))

    def test_chords_without_a_letter(self):
        for letter in NO_LETTERS:
            for place in range(4):
                self.no_chord(place, with_chord(FIVE, place, (FIVE[2][place][0], letter)))

    def test_sets_that_are_none(self):
        for keys in ((), (0,), (1, 0), (0, 0), (0, 1, 1), (0, 2, 1), (2, 1, 0), (1, 0, 2), (0, 1, 0)):
            for place in range(4):
                self.no_chord(place, with_chord(FIVE, place, (keys, "x")))

    def test_sets_with_keys_that_the_bed_has_not(self):
        for keys in ((-1, 0), (-1, 1), (0, 3), (2, 3), (0, 1, 2, 3), (0, 10 ** 19), (-2, -1), (3, 4)):
            self.no_chord(0, (3, ((A, A, A),), ((keys, "x"),), 1))

    def test_sets_with_keys_that_are_no_letters_on_layer_0(self):
        for meaning in (("layer", 1), ("tap", "a", 1), ("once", 1), ("none",)):
            for key in range(3):
                bed = (3, ((A, A, A), (A, A, A)), (((0, 1, 2), "x"),), 1)
                self.assertEqual(checked(bed), bed)
                self.no_chord(0, with_meaning(bed, 0, key, meaning))
        # What they are on another layer doesn't count.
        bed = (2, ((A, A), (("none",), ("layer", 1))), (((0, 1), "x"),), 1)
        self.assertEqual(checked(bed), bed)

    def test_sets_that_were_told_ahead(self):
        for place in range(1, 4):
            for ahead in range(place):
                self.no_chord(place, with_chord(FIVE, place, (FIVE[2][ahead][0], "q")))
                self.no_chord(place, with_chord(FIVE, place, FIVE[2][ahead]))

    def test_the_first_chord_is_told(self):
        faults = (((0, 1), "A"), ((0,), "x"), ((2, 1), "x"), ((0, 4), "x"), ((0, 7), "x"))
        for one in faults:
            for other in faults:
                self.no_chord(1, with_chord(with_chord(FIVE, 3, other), 1, one))


class TwoAtOnce(unittest.TestCase):
    """Of two refusals that are due at once the one told first comes."""

    def all_refusals(self):
        """Ways to spoil the bed FIVE, in the order told, each with its class and fields."""
        ways = [
            ((NoBed, None, None), lambda bed: with_part(bed, 3, 0)),
            ((NoBed, None, None), lambda bed: with_part(bed, 2, bed[2] + (((2, 1), "A"),))),
        ]
        for layer in range(3):
            ways.append((
                (NoBed, layer, None),
                lambda bed, layer=layer: with_part(bed, 1, with_part(bed[1], layer, bed[1][layer] + (A,))),
            ))
            for key in range(5):
                for meaning in (("letter", "A"), ("tap", "a", 3), ("layer", 0), ("once", 7)):
                    ways.append((
                        (NoBed, layer, key),
                        lambda bed, layer=layer, key=key, meaning=meaning: with_meaning(bed, layer, key, meaning),
                    ))
        for place in range(4):
            for chord in (((0, 1), "?"), ((1,), "x"), ((2, 0), "x"), ((0, 3), "x"), ((0, 5), "x")):
                ways.append((
                    (NoChord, place),
                    lambda bed, place=place, chord=chord: with_chord(bed, place, chord),
                ))
        return ways

    def test_each_alone(self):
        for refusal, spoil in self.all_refusals():
            self.assertEqual(refusal_of(checked, spoil(FIVE)), refusal)

    def test_each_with_each_that_is_told_behind_it(self):
        ways = self.all_refusals()
        for first, (refusal, spoil) in enumerate(ways):
            for behind, spoil_too in ways[first + 1:]:
                # The one behind is done first, so that it can't undo the other.
                bed = spoil(spoil_too(FIVE))
                self.assertEqual(refusal_of(checked, bed), refusal, bed)

    def test_numbers_ahead_of_layers_and_chords(self):
        for bed in (
            (0, ((),), (((0,), "A"),), 1),
            (6, ((A,), (("below",),)), (), 1),
            (1, (), (((0,), "A"),), 1),
            (1, ((("below",),),), (), 5),
            (1, ((A, A),), (), 0),
        ):
            self.assertEqual(refusal_of(checked, bed), (NoBed, None, None), bed)

    def test_a_layer_whole_ahead_of_the_next(self):
        bed = (2, ((A, ("letter", "A")), (A,)), (), 1)
        self.assertEqual(refusal_of(checked, bed), (NoBed, 0, 1))
        bed = (2, ((A, A), (A,), (("letter", "A"), A)), (), 1)
        self.assertEqual(refusal_of(checked, bed), (NoBed, 1, None))

    def test_a_layer_of_wrong_length_ahead_of_its_meanings(self):
        bed = (2, ((("letter", "A"),),), (), 1)
        self.assertEqual(refusal_of(checked, bed), (NoBed, 0, None))

    def test_all_layers_ahead_of_the_chords(self):
        bed = (2, ((A, A), (A, ("once", 0))), (((1, 0), "a"),), 1)
        self.assertEqual(refusal_of(checked, bed), (NoBed, 1, 1))


if __name__ == "__main__":
    unittest.main()
