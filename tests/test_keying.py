"""The rooms on the ways to a text [28], and shortest rows that type it [29]."""

import inspect
import unittest

from chordbed.errors import BedError, TooMany
from chordbed.keying import typed, typing_rooms
from chordbed.plain import play, step
from chordbed.rooms import events_of, rooms
from tests.plain_bed import A, B, BELOW, C, NONE, REST, chosen_beds, more_beds
from tests.plain_keying import (
    ONE_LETTER, ONE_TAP, TYPING_400, TYPING_401, downs_of, lengths_by_rows, lengths_by_text, letters_of, plain_length,
    plain_ways, texts_for,
)
from tests.plain_machine import MANY, folding_beds, small_beds

TAP = ("tap", "a", 1)
CHORD = (2, ((A, B),), (((0, 1), "c"),), 2)
LAYER = (2, ((("layer", 1), A), (BELOW, B)), (), 1)
ONCE = (2, ((("once", 1), A), (BELOW, B)), (), 1)
SILENT = (2, ((NONE, ("layer", 1)), (BELOW, NONE)), (), 1)


def some_beds():
    """Beds whose ways to short texts are gone through in little time."""
    return chosen_beds()[:12] + chosen_beds()[15:17] + more_beds()[::9] + folding_beds() + small_beds()[::3]


class TypingRooms(unittest.TestCase):

    def test_a_bed_of_one_letter(self):
        down = (((0, A),), None, None)
        self.assertEqual(typing_rooms(ONE_LETTER, ""), [(REST, 0, 0)])
        self.assertEqual(typing_rooms(ONE_LETTER, "a"), [(REST, 0, 0), (down, 1, 1), (REST, 1, 2)])
        self.assertEqual(
            typing_rooms(ONE_LETTER, "aa"),
            [(REST, 0, 0), (down, 1, 1), (REST, 1, 2), (down, 2, 3), (REST, 2, 4)],
        )

    def test_another_letter_is_no_way(self):
        self.assertEqual(typing_rooms(ONE_LETTER, "b"), [(REST, 0, 0)])
        self.assertEqual(typing_rooms(ONE_LETTER, "ba"), [(REST, 0, 0)])
        self.assertEqual(typing_rooms(ONE_LETTER, "ab"), typing_rooms(ONE_LETTER, "a"))

    def test_a_bed_of_one_tap(self):
        first = ((), ((0,), 0, TAP), None)
        second = ((), ((0,), 1, TAP), None)
        held = (((0, ("layer", 1)),), None, None)
        self.assertEqual(typing_rooms(ONE_TAP, ""), [(REST, 0, 0), (first, 0, 1), (second, 0, 2), (held, 0, 3)])
        self.assertEqual(sorted(typing_rooms(ONE_TAP, "a"), key=repr), sorted([
            (REST, 0, 0), (first, 0, 1), (second, 0, 2), (REST, 1, 2), (held, 0, 3), (first, 1, 3), (second, 1, 4),
            (held, 1, 5),
        ], key=repr))

    def test_a_step_may_send_several_letters(self):
        bed = (3, ((A, B, C),), (((0, 1, 2), "d"),), 1)
        both = (((0, A), (1, B)), None, None)
        # Both keys wait for the chord; with the turn they are decided as their letters, in the order of their downs.
        self.assertIn((both, 2, 3), typing_rooms(bed, "ab"))
        self.assertIn((both, 2, 3), typing_rooms(bed, "abc"))
        self.assertIn((both, 2, 3), typing_rooms(bed, "ba"))
        # The first of the two letters alone is no way.
        for text in ("", "a", "b", "ac", "aa", "bb", "c"):
            self.assertNotIn(both, [room[0] for room in typing_rooms(bed, text)], text)

    def test_a_letter_that_is_down_already_is_no_other_down(self):
        bed = (2, ((A, A),), (), 1)
        both = (((0, A), (1, A)), None, None)
        self.assertIn((both, 1, 2), typing_rooms(bed, "a"))
        self.assertIn((both, 1, 2), typing_rooms(bed, "aa"))
        self.assertIn((both, 2, 4), typing_rooms(bed, "aa"))

    def test_as_the_plain_telling_has_them(self):
        for bed in some_beds():
            for text in texts_for(bed, 2):
                found = typing_rooms(bed, text, MANY)
                self.assertEqual({(one, done): price for one, done, price in found}, plain_ways(bed, text), (bed, text))
                self.assertEqual(len({(one, done) for one, done, price in found}), len(found))
                prices = [price for one, done, price in found]
                self.assertEqual(prices, sorted(prices))
                self.assertEqual(found[0], (REST, 0, 0))

    def test_longer_texts(self):
        for bed in some_beds()[::4]:
            letters = "".join(letters_of(bed)) or "a"
            for text in ((letters * 6)[:6], (letters[::-1] * 7)[:7], letters[0] * 5 + letters[-1]):
                found = typing_rooms(bed, text, MANY)
                self.assertEqual({(one, done): price for one, done, price in found}, plain_ways(bed, text), (bed, text))

    def test_of_no_letters_those_that_send_none(self):
        # A bed that never sends a letter has all its rooms on the way to none.
        self.assertEqual(
            {standing for standing, done, price in typing_rooms(SILENT, "")}, {room[0] for room in rooms(SILENT)},
        )
        self.assertEqual(typing_rooms(SILENT, "a"), typing_rooms(SILENT, ""))

    def test_kinds(self):
        for bed in chosen_beds()[:12]:
            found = typing_rooms(bed, "ab", MANY)
            self.assertIs(type(found), list)
            for room in found:
                self.assertIs(type(room), tuple)
                self.assertEqual([type(one) for one in room], [tuple, int, int])
                self.assertIn(room[1], (0, 1, 2))

    def test_nothing_is_changed_and_the_list_is_the_askers_own(self):
        bed = chosen_beds()[9]
        first = typing_rooms(bed, "ab")
        kept = list(first)
        second = typing_rooms(bed, "ab")
        second.clear()
        self.assertEqual(first, kept)
        self.assertEqual(typing_rooms(bed, "ab"), kept)
        self.assertEqual(bed, chosen_beds()[9])


class Typed(unittest.TestCase):

    def types(self, bed, text, length):
        """A row of so many events is told that types a text."""
        row = typed(bed, text, MANY)
        self.assertIs(type(row), list, (bed, text))
        events = events_of(bed)
        self.assertTrue(all(event in events for event in row))
        sent, standing = play(bed, row)
        self.assertEqual(standing, REST)
        self.assertEqual([letter for one in sent for letter in downs_of(one)], list(text), (bed, text))
        self.assertEqual(len(row), length, (bed, text))

    def test_no_letter_no_event(self):
        for bed in chosen_beds() + folding_beds():
            self.assertEqual(typed(bed, "", MANY), [])

    def test_by_hand(self):
        self.assertEqual(typed(ONE_LETTER, "a"), [("down", 0), ("up", 0)])
        self.assertEqual(typed(ONE_LETTER, "aa"), [("down", 0), ("up", 0)] * 2)
        self.assertEqual(typed(ONE_TAP, "aaa"), [("down", 0), ("up", 0)] * 3)
        self.assertEqual(typed(LAYER, "a"), [("down", 1), ("up", 1)])
        self.types(LAYER, "b", 4)
        self.types(LAYER, "bb", 6)
        self.types(LAYER, "ab", 6)
        self.types(ONCE, "b", 4)
        self.types(ONCE, "bb", 8)
        self.types(CHORD, "a", 2)
        self.types(CHORD, "ab", 4)
        self.types(CHORD, "c", 4)
        self.types(CHORD, "cc", 8)

    def test_a_tap_is_held_by_the_next_key(self):
        bed = (2, ((("tap", "a", 1), NONE), (NONE, B)), (), 3)
        self.types(bed, "a", 2)
        self.types(bed, "b", 4)
        self.types(bed, "aba", 8)
        self.types(bed, "bb", 6)

    def test_letters_that_are_down_at_once(self):
        # Both keys are a: the second down sends nothing while the first is down.
        self.types((2, ((A, A),), (), 1), "aa", 4)
        self.types((2, ((A, B),), (), 1), "ab", 4)
        self.types((2, ((A, B),), (), 1), "aba", 6)

    def test_what_no_row_does(self):
        self.assertIsNone(typed(ONE_LETTER, "b"))
        self.assertIsNone(typed(ONE_LETTER, "ab"))
        self.assertIsNone(typed(ONE_LETTER, "ba"))
        # The one key that is b on layer 1 is down itself where this is the layer.
        self.assertIsNone(typed(ONE_TAP, "b"))
        self.assertIsNone(typed(SILENT, "a"))
        self.assertIsNone(typed(CHORD, "d"))
        self.assertIsNone(typed(LAYER, "abc"))

    def test_the_end_is_at_rest(self):
        # The letter is sent with the second event, but two keys are down then.
        held = (((0, ("layer", 1)), (1, B)), None, None)
        self.assertIn((held, 1, 2), typing_rooms(LAYER, "b"))
        self.types(LAYER, "b", 4)
        # The letter is sent where the tap's key goes up, and all is at rest with that.
        self.assertIn((REST, 1, 2), typing_rooms(ONE_TAP, "a"))
        self.types(ONE_TAP, "a", 2)

    def test_as_the_plain_telling_has_it(self):
        never = 0
        for bed in some_beds():
            for text in texts_for(bed, 3):
                length = plain_length(bed, text)
                if length is None:
                    self.assertIsNone(typed(bed, text, MANY), (bed, text))
                    never += 1
                else:
                    self.types(bed, text, length)
        self.assertGreater(never, 100)

    def test_by_all_rows_of_events(self):
        for bed in (ONE_LETTER, ONE_TAP, CHORD, LAYER, ONCE, SILENT):
            longest = 8 if bed[0] == 1 else 5
            lengths = lengths_by_rows(bed, longest)
            for text, length in lengths.items():
                self.types(bed, text, length)
            for text in texts_for(bed, 3):
                row = typed(bed, text, MANY)
                if text not in lengths and row is not None:
                    self.assertGreater(len(row), longest)

    def test_by_all_rows_of_events_of_more_beds(self):
        for bed in chosen_beds()[:18] + more_beds()[::15]:
            lengths = lengths_by_text(bed, 5)
            for text in sorted(lengths)[:25]:
                self.types(bed, text, lengths[text])
            for text in texts_for(bed, 2):
                row = typed(bed, text, MANY)
                if text not in lengths and row is not None:
                    self.assertGreater(len(row), 5)

    def test_as_long_as_the_room_at_its_end(self):
        for bed in some_beds()[::3]:
            for text in texts_for(bed, 2):
                prices = [price for one, done, price in typing_rooms(bed, text, MANY)
                          if (one, done) == (REST, len(text))]
                row = typed(bed, text, MANY)
                self.assertEqual([] if row is None else [len(row)], prices)

    def test_nothing_is_changed_and_the_list_is_the_askers_own(self):
        bed = chosen_beds()[5]
        first = typed(bed, "ab")
        second = typed(bed, "ab")
        self.assertEqual(first, second)
        first.clear()
        self.assertEqual(typed(bed, "ab"), second)
        empty = typed(bed, "")
        empty.append("x")
        self.assertEqual(typed(bed, ""), [])
        self.assertEqual(bed, chosen_beds()[5])


class TooManyTypingRooms(unittest.TestCase):

    def refused(self, ask, bed, text, most):
        with self.assertRaises(TooMany, msg=repr((bed, text, most))) as caught:
            ask(bed, text, most)
        self.assertEqual(caught.exception.most, most)
        self.assertIsInstance(caught.exception, BedError)

    def test_just_where_there_are_more(self):
        for bed in some_beds():
            for text in texts_for(bed, 1):
                count = len(plain_ways(bed, text))
                found = typing_rooms(bed, text, MANY)
                self.assertEqual(len(found), count)
                self.assertEqual(typing_rooms(bed, text, count), found)
                self.assertEqual(typed(bed, text, count), typed(bed, text, MANY))
                for ask in (typing_rooms, typed):
                    self.refused(ask, bed, text, count - 1)
                    self.refused(ask, bed, text, count // 2)
                    self.refused(ask, bed, text, 0)

    def test_rest_is_one(self):
        self.assertEqual(typing_rooms(ONE_LETTER, "", 1), [(REST, 0, 0)])
        self.assertEqual(typed(ONE_LETTER, "", 1), [])
        self.assertIsNone(typed(ONE_LETTER, "b", 1))
        for ask in (typing_rooms, typed):
            self.refused(ask, ONE_LETTER, "", 0)
            self.refused(ask, ONE_LETTER, "b", 0)
            self.refused(ask, ONE_LETTER, "a", 2)
            self.refused(ask, ONE_LETTER, "", -1)

    def test_though_a_row_would_be_found_ahead(self):
        # Rest is the first room, and with no letter the row is found there; but three more follow.
        self.refused(typed, ONE_TAP, "", 3)
        self.assertEqual(typed(ONE_TAP, "", 4), [])
        # Four rooms are come to before the tap is done with, four behind.
        for most in range(8):
            self.refused(typed, ONE_TAP, "a", most)
        self.assertEqual(typed(ONE_TAP, "a", 8), [("down", 0), ("up", 0)])

    def test_four_hundred_by_itself(self):
        for ask in (typing_rooms, typed):
            self.assertEqual(inspect.signature(ask).parameters["most"].default, 400)
        for bed, text, length in TYPING_400:
            self.assertEqual(len(plain_ways(bed, text)), 400)
            self.assertEqual(len(typing_rooms(bed, text)), 400)
            self.assertEqual(plain_length(bed, text), length)
            row = typed(bed, text)
            self.assertEqual(None if row is None else len(row), length)
        for bed, text, length in TYPING_401:
            self.assertEqual(len(plain_ways(bed, text)), 401)
            for ask in (typing_rooms, typed):
                with self.assertRaises(TooMany) as caught:
                    ask(bed, text)
                self.assertEqual(caught.exception.most, 400)
            self.assertEqual(len(typing_rooms(bed, text, most=401)), 401)
            row = typed(bed, text, most=401)
            self.assertEqual(None if row is None else len(row), length)

    def test_each_room_is_come_to_by_a_step_from_a_cheaper_one(self):
        bed, text = TYPING_400[0][:2]
        found = {(one, done): price for one, done, price in typing_rooms(bed, text)}
        reached = {}
        for (standing, done), price in found.items():
            for event in events_of(bed):
                sent, there = step(bed, standing, event)
                behind = (there, done + len(downs_of(sent)))
                if "".join(downs_of(sent)) == text[done:behind[1]]:
                    self.assertIn(behind, found)
                    reached[behind] = min(price + 1, reached.get(behind, MANY))
        reached[(REST, 0)] = 0
        self.assertEqual(found, reached)


if __name__ == "__main__":
    unittest.main()
