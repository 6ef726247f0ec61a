"""The events of a bed and its rooms [20]."""

import inspect
import unittest

from chordbed.errors import BedError, TooMany
from chordbed.plain import play, step
from chordbed.rooms import events_of, rooms
from tests.plain_bed import A, B, BELOW, NONE, REST, chosen_beds
from tests.plain_machine import JUST_400, JUST_401, MANY, all_beds, plain_rooms

TAP = ("tap", "a", 1)
ONE_TAP = (1, ((TAP,), (B,)), (), 2)


class Events(unittest.TestCase):

    def test_the_downs_the_ups_the_turn(self):
        self.assertEqual(events_of((1, ((A,),), (), 1)), [("down", 0), ("up", 0), ("turn", 0)])
        self.assertEqual(
            events_of((3, ((A, B, NONE),), (), 4)),
            [("down", 0), ("down", 1), ("down", 2), ("up", 0), ("up", 1), ("up", 2), ("turn", 0)],
        )

    def test_each_number_of_keys(self):
        for keys in range(1, 6):
            events = events_of((keys, ((A,) * keys,), (), 1))
            self.assertIs(type(events), list)
            self.assertEqual([key for word, key in events[:keys]], list(range(keys)))
            self.assertEqual([key for word, key in events[keys:-1]], list(range(keys)))
            self.assertEqual([word for word, key in events], ["down"] * keys + ["up"] * keys + ["turn"])
            self.assertEqual(events[-1], ("turn", 0))

    def test_a_new_list_each_time(self):
        bed = (2, ((A, B),), (), 1)
        first = events_of(bed)
        first.clear()
        self.assertEqual(len(events_of(bed)), 5)


class Rooms(unittest.TestCase):

    def test_a_bed_of_one_letter(self):
        self.assertEqual(
            rooms((1, ((A,),), (), 1)), [(REST, None, None), ((((0, A),), None, None), 0, ("down", 0))],
        )

    def test_a_bed_of_one_tap(self):
        self.assertEqual(rooms(ONE_TAP), [
            (REST, None, None),
            (((), ((0,), 0, TAP), None), 0, ("down", 0)),
            (((), ((0,), 1, TAP), None), 1, ("turn", 0)),
            ((((0, ("layer", 1)),), None, None), 2, ("turn", 0)),
        ])

    def test_the_downs_come_ahead_of_the_ups_and_the_lower_room_ahead(self):
        bed = (2, ((("once", 1), A), (BELOW, B)), (), 1)
        self.assertEqual(rooms(bed), [
            (REST, None, None),
            ((((0, NONE),), None, 1), 0, ("down", 0)),
            ((((1, A),), None, None), 0, ("down", 1)),
            ((((0, NONE), (1, B)), None, None), 1, ("down", 1)),
            (((), None, 1), 1, ("up", 0)),
            ((((0, NONE), (1, A)), None, 1), 2, ("down", 0)),
            ((((1, B),), None, None), 3, ("up", 0)),
            ((((0, NONE),), None, None), 3, ("up", 1)),
            ((((1, A),), None, 1), 5, ("up", 0)),
            ((((0, NONE), (1, B)), None, 1), 6, ("down", 0)),
            ((((0, NONE), (1, A)), None, None), 7, ("down", 1)),
            ((((1, B),), None, 1), 9, ("up", 0)),
        ])

    def test_as_the_plain_telling_has_them(self):
        for bed in all_beds():
            self.assertEqual(rooms(bed, MANY), plain_rooms(bed), bed)

    def test_kinds(self):
        for bed in chosen_beds()[:20]:
            found = rooms(bed)
            self.assertIs(type(found), list)
            for number, room in enumerate(found):
                self.assertIs(type(room), tuple)
                self.assertEqual(len(room), 3)
                self.assertIs(type(room[0]), tuple)
                self.assertIs(type(room[1]), int if number else type(None))
                self.assertIs(type(room[2]), tuple if number else type(None))

    def test_each_standing_once_and_none_left_out(self):
        for bed in chosen_beds():
            found = rooms(bed, MANY)
            standings = [room[0] for room in found]
            self.assertEqual(len(set(standings)), len(standings), bed)
            events = events_of(bed)
            there = {step(bed, standing, event)[1] for standing in standings for event in events}
            self.assertEqual(there | {REST}, set(standings), bed)

    def test_back_and_event_lead_to_the_room_and_come_by_rooms_then_by_events(self):
        for bed in chosen_beds():
            found = rooms(bed, MANY)
            events = events_of(bed)
            self.assertEqual(found[0], (REST, None, None))
            marks = [(back, events.index(event)) for standing, back, event in found[1:]]
            self.assertEqual(marks, sorted(set(marks)), bed)
            for number, (standing, back, event) in enumerate(found[1:], start=1):
                self.assertLess(back, number)
                self.assertEqual(step(bed, found[back][0], event)[1], standing)

    def test_the_way_back_is_a_row_of_events_to_the_room(self):
        for bed in chosen_beds()[:20]:
            found = rooms(bed)
            for number, room in enumerate(found):
                row = []
                while found[number][1] is not None:
                    row.insert(0, found[number][2])
                    number = found[number][1]
                self.assertEqual(play(bed, row)[1], room[0])

    def test_nothing_is_changed_and_the_list_is_the_askers_own(self):
        bed = chosen_beds()[12]
        first = rooms(bed)
        kept = list(first)
        second = rooms(bed)
        self.assertEqual(second, kept)
        second.clear()
        self.assertEqual(first, kept)
        self.assertEqual(rooms(bed), kept)
        self.assertEqual(bed, chosen_beds()[12])


class TooManyRooms(unittest.TestCase):

    def refused(self, bed, most):
        with self.assertRaises(TooMany) as caught:
            rooms(bed, most)
        self.assertEqual(caught.exception.most, most)
        self.assertIsInstance(caught.exception, BedError)

    def test_just_where_there_are_more(self):
        for bed in all_beds():
            expected = plain_rooms(bed)
            self.assertEqual(rooms(bed, len(expected)), expected)
            self.assertEqual(rooms(bed, len(expected) + 1), expected)
            self.refused(bed, len(expected) - 1)

    def test_each_number_below(self):
        for most in range(4):
            self.refused(ONE_TAP, most)
        self.assertEqual(len(rooms(ONE_TAP, 4)), 4)

    def test_rest_is_one(self):
        # No bed has rest alone, since its keys can always go down.
        for bed in chosen_beds():
            self.refused(bed, -1)
            self.refused(bed, 0)
            self.refused(bed, 1)

    def test_four_hundred_by_itself(self):
        self.assertEqual(inspect.signature(rooms).parameters["most"].default, 400)
        for bed in JUST_400:
            self.assertEqual(rooms(bed), plain_rooms(bed))
            self.assertEqual(len(rooms(bed)), 400)
        for bed in JUST_401:
            with self.assertRaises(TooMany) as caught:
                rooms(bed)
            self.assertEqual(caught.exception.most, 400)
            self.assertEqual(len(rooms(bed, most=401)), 401)

    def test_what_is_refused_is_told_with_more(self):
        bed = chosen_beds()[20]
        self.refused(bed, 400)
        self.assertEqual(rooms(bed, 2000), plain_rooms(bed))


if __name__ == "__main__":
    unittest.main()
