"""Machines [21], their states and the rows that tell these apart [22], and what [3] says of them."""

import inspect
import unittest
from itertools import combinations, product

from chordbed.errors import BedError, TooMany
from chordbed.machines import apart, machine, states
from chordbed.plain import play
from chordbed.rooms import events_of, rooms
from tests.plain_bed import A, B, BELOW, NONE, REST, all_events, chosen_beds, more_beds, plain_step
from tests.plain_machine import (
    JUST_400, JUST_401, MANY, all_beds, beds_up_to, folding_beds, plain_rooms, plain_states, sent_from, small_beds,
)

ONE_LETTER = (1, ((A,),), (), 1)
DOWN, UP = (("a", "down"),), (("a", "up"),)


def run(a_machine, bed, events, state=0):
    """What a machine sends in each step of a row of events, and its state at the end."""
    steps, sends = a_machine
    places = {event: place for place, event in enumerate(all_events(bed))}
    all_sent = []
    for event in events:
        all_sent.append(list(sends[state][places[event]]))
        state = steps[state][places[event]]
    return all_sent, state


def long_rows(bed, count, length):
    """Long rows of events of a bed, made without chance."""
    events = all_events(bed)
    for number in range(1, count + 1):
        value = number
        row = []
        for place in range(length):
            value = (value * 1103 + 12345 + place) % 65537
            row.append(events[value // 7 % len(events)])
        yield row


class Machine(unittest.TestCase):

    def test_a_letter(self):
        self.assertEqual(machine(ONE_LETTER), (((1, 0, 0), (1, 0, 1)), ((DOWN, (), ()), ((), UP, ()))))

    def test_a_key_that_means_nothing_has_one_state(self):
        self.assertEqual(machine((1, ((NONE,),), (), 3)), (((0, 0, 0),), (((), (), ()),)))

    def test_a_tap(self):
        bed = (1, ((("tap", "a", 1),), (B,)), (), 2)
        self.assertEqual(machine(bed), (
            ((1, 0, 0), (1, 0, 2), (2, 0, 3), (3, 0, 3)),
            (((), (), ()), ((), DOWN + UP, ()), ((), DOWN + UP, ()), ((), (), ())),
        ))

    def test_rooms_that_send_alike_are_one_state(self):
        bed = (2, ((NONE, A),), (), 1)
        self.assertEqual(len(rooms(bed)), 4)
        self.assertEqual(machine(bed), (
            ((0, 1, 0, 0, 0), (1, 1, 1, 0, 1)), (((), DOWN, (), (), ()), ((), (), (), UP, ())),
        ))

    def test_kinds(self):
        for bed in chosen_beds()[:20] + folding_beds():
            made = machine(bed)
            self.assertIs(type(made), tuple)
            steps, sends = made
            self.assertEqual((type(steps), type(sends)), (tuple, tuple))
            self.assertEqual(len(steps), len(sends))
            for row in steps:
                self.assertEqual((type(row), len(row)), (tuple, 2 * bed[0] + 1))
                for state in row:
                    self.assertIs(type(state), int)
                    self.assertTrue(0 <= state < len(steps))
            for row in sends:
                self.assertEqual((type(row), len(row)), (tuple, 2 * bed[0] + 1))
                for sent in row:
                    self.assertIs(type(sent), tuple)
                    for one in sent:
                        self.assertEqual((type(one), len(one)), (tuple, 2))

    def test_it_sends_what_the_plain_reading_sends_from_each_room(self):
        # Held in every room, it holds of every row of events.
        for bed in all_beds():
            steps, sends = machine(bed, MANY)
            standings = [room[0] for room in plain_rooms(bed)]
            state_of = dict(zip(standings, states(bed, MANY)))
            self.assertEqual(state_of[REST], 0)
            for standing in standings:
                here = state_of[standing]
                for place, event in enumerate(all_events(bed)):
                    sent, there = plain_step(bed, standing, event)
                    self.assertEqual(sends[here][place], tuple(sent), (bed, standing, event))
                    self.assertEqual(steps[here][place], state_of[there], (bed, standing, event))

    def test_it_sends_what_the_plain_reading_sends_row_by_row(self):
        for bed in chosen_beds()[:8] + folding_beds():
            made = machine(bed)
            for length in range(4):
                for row in product(events_of(bed), repeat=length):
                    self.assertEqual(run(made, bed, row)[0], play(bed, list(row))[0], (bed, row))
        for bed in chosen_beds() + more_beds():
            made = machine(bed, MANY)
            for row in long_rows(bed, 3, 150):
                self.assertEqual(run(made, bed, row)[0], play(bed, row)[0], (bed, row))

    def test_no_machine_has_fewer_states(self):
        # As many as there are standings that some row of events tells apart, each from each.
        for bed, standings in beds_up_to(130):
            self.assertEqual(len(machine(bed)[0]), max(plain_states(bed, standings)) + 1, bed)

    def test_fewer_states_than_rooms(self):
        for bed in folding_beds():
            self.assertLess(len(machine(bed)[0]), len(rooms(bed)), bed)

    def test_states_are_numbered_as_they_come(self):
        for bed in all_beds():
            steps = machine(bed, MANY)[0]
            come = [0]
            for state in range(len(steps)):
                # A state that none before it steps to couldn't be the next one.
                self.assertLess(state, len(come), bed)
                come += [there for there in dict.fromkeys(steps[state]) if there not in come]
            self.assertEqual(come, list(range(len(steps))), bed)


class States(unittest.TestCase):

    def test_by_rooms(self):
        self.assertEqual(states(ONE_LETTER), [0, 1])
        self.assertEqual(states((2, ((NONE, A),), (), 1)), [0, 0, 1, 1])
        self.assertEqual(states((2, ((NONE, NONE),), (), 1)), [0, 0, 0, 0])
        self.assertEqual(states((2, ((A, A),), (), 1)), [0, 1, 2, 3])

    def test_a_once_whose_layer_is_like_another(self):
        bed = (3, ((("once", 1), ("once", 2), A), (BELOW, BELOW, B), (BELOW, BELOW, B)), (), 1)
        by_standing = dict(zip([room[0] for room in rooms(bed)], states(bed)))
        self.assertEqual(by_standing[((), None, 1)], by_standing[((), None, 2)])
        self.assertNotEqual(by_standing[((), None, 1)], by_standing[REST])

    def test_as_the_plain_telling_has_them(self):
        for bed, standings in beds_up_to(130):
            self.assertEqual(states(bed), plain_states(bed, standings), bed)

    def test_one_for_each_room_and_each_state_has_one(self):
        for bed in chosen_beds():
            told = states(bed, MANY)
            self.assertIs(type(told), list)
            self.assertEqual(len(told), len(rooms(bed, MANY)))
            self.assertEqual(sorted(set(told)), list(range(len(machine(bed, MANY)[0]))))

    def test_the_list_is_the_askers_own(self):
        bed = chosen_beds()[6]
        first = states(bed)
        kept = list(first)
        first.clear()
        self.assertEqual(states(bed), kept)
        self.assertEqual(bed, chosen_beds()[6])


class Apart(unittest.TestCase):

    def holds(self, bed, one, other, made, firsts):
        """A row for two states is a list, no longer than there are states, and tells them apart in its last step."""
        row = apart(bed, one, other, MANY)
        self.assertIs(type(row), list)
        self.assertTrue(1 <= len(row) <= len(made[0]), (bed, one, other, row))
        for event in row:
            self.assertIn(event, all_events(bed))
        self.assertNotEqual(run(made, bed, row, one)[0][-1], run(made, bed, row, other)[0][-1], (bed, one, other))
        sent = [sent_from(bed, firsts[state], row)[-1] for state in (one, other)]
        self.assertNotEqual(sent[0], sent[1], (bed, one, other, row))

    def firsts_of(self, bed):
        firsts = {}
        for room, state in zip(rooms(bed, MANY), states(bed, MANY)):
            firsts.setdefault(state, room[0])
        return firsts

    def test_a_letter_that_is_down_and_one_that_is_up(self):
        for row in (apart(ONE_LETTER, 0, 1), apart(ONE_LETTER, 1, 0)):
            self.assertIn(row, ([("down", 0)], [("up", 0)], [("turn", 0), ("down", 0)], [("turn", 0), ("up", 0)]))

    def test_any_two_states_of_small_beds(self):
        for bed in chosen_beds()[:9] + folding_beds() + small_beds():
            made, firsts = machine(bed), self.firsts_of(bed)
            for one, other in combinations(range(len(made[0])), 2):
                # The order in which they are asked is no matter.
                if (one + other) % 2:
                    one, other = other, one
                self.holds(bed, one, other, made, firsts)

    def test_some_states_of_greater_beds(self):
        for bed in chosen_beds()[9:20] + chosen_beds()[-1:] + more_beds()[::8]:
            made, firsts = machine(bed, MANY), self.firsts_of(bed)
            last = len(made[0]) - 1
            for one in range(0, last, last // 3 + 1):
                for other in (one + 1, (one + last) // 2 + 1, last):
                    if one != other:
                        self.holds(bed, one, other, made, firsts)

    def test_states_that_only_a_long_row_tells_apart(self):
        # A layer that waits for one key more, with a wait of four turns between.
        bed = (2, ((("tap", "a", 1), NONE), (BELOW, B)), (), 4)
        made, firsts = machine(bed), self.firsts_of(bed)
        lengths = []
        for one, other in combinations(range(len(made[0])), 2):
            self.holds(bed, one, other, made, firsts)
            lengths.append(len(apart(bed, one, other)))
        self.assertGreater(max(lengths), 2)

    def test_a_state_and_itself(self):
        for bed in chosen_beds()[:6] + folding_beds():
            for state in range(len(machine(bed)[0])):
                self.assertIsNone(apart(bed, state, state))

    def test_the_list_is_the_askers_own(self):
        first = apart(ONE_LETTER, 0, 1)
        kept = list(first)
        first.clear()
        self.assertEqual(apart(ONE_LETTER, 0, 1), kept)


class TooManyRooms(unittest.TestCase):
    """Refused for the bed's rooms, however few the states are."""

    ASKS = (
        machine, states, lambda bed, most: apart(bed, 0, 1, most), lambda bed, most: apart(bed, 1, 0, most),
        lambda bed, most: apart(bed, 0, 0, most), lambda bed, most: apart(bed, 1, 1, most),
    )

    def refused(self, ask, most, *told):
        with self.assertRaises(TooMany) as caught:
            ask(*told)
        self.assertEqual(caught.exception.most, most)
        self.assertIsInstance(caught.exception, BedError)

    def test_just_where_there_are_more(self):
        for bed in chosen_beds()[:20] + folding_beds()[2:8]:
            count = len(plain_rooms(bed))
            for ask in self.ASKS:
                self.assertEqual(ask(bed, count), ask(bed, MANY))
                self.refused(ask, count - 1, bed, count - 1)
                self.refused(ask, 0, bed, 0)

    def test_one_state_and_many_rooms(self):
        bed = (3, ((NONE, NONE, NONE),), (), 2)
        self.assertEqual(len(machine(bed, 8)[0]), 1)
        for most in range(8):
            self.refused(machine, most, bed, most)
            self.refused(states, most, bed, most)
            self.refused(apart, most, bed, 0, 0, most)

    def test_four_hundred_by_itself(self):
        for ask in (machine, states, apart):
            self.assertEqual(inspect.signature(ask).parameters["most"].default, 400)
        for bed in JUST_400:
            self.assertEqual(len(states(bed)), 400)
            self.assertEqual(len(machine(bed)[0]), max(states(bed)) + 1)
            self.assertIsNotNone(apart(bed, 0, 1))
            self.assertIsNone(apart(bed, 2, 2))
        for bed in JUST_401:
            self.refused(machine, 400, bed)
            self.refused(states, 400, bed)
            self.refused(apart, 400, bed, 0, 1)
            self.refused(apart, 400, bed, 2, 2)
            self.assertEqual(len(states(bed, most=401)), 401)
            self.assertEqual(len(machine(bed, most=401)[0]), max(states(bed, 401)) + 1)
            self.assertIsNone(apart(bed, 1, 1, most=401))


if __name__ == "__main__":
    unittest.main()
