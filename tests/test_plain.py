"""The plain reading: layers [15], what is sent [16], steps [17, 18], rows of events [19], [3]."""

import unittest
from itertools import product

from chordbed.beds import checked
from chordbed.plain import layer_of, play, step
from tests.plain_bed import (
    A, B, BELOW, C, D, E, NONE, REST, all_events, chosen_beds, more_beds, plain_layer, plain_step, reached,
)

CHORD = ("chord",)
TAP = ("tap", "t", 1)
TURN = ("turn", 0)


def down(key):
    return ("down", key)


def up(key):
    return ("up", key)


class Steps(unittest.TestCase):
    """Each case of [17] by itself: what is sent, and the standing behind it."""

    def stepped(self, bed, standing, event, sent, behind):
        self.assertEqual(checked(bed), bed)
        self.assertEqual(step(bed, standing, event), (sent, behind), (bed, standing, event))

    def stays(self, bed, standing, event):
        self.stepped(bed, standing, event, [], standing)


class Layers(unittest.TestCase):

    def test_at_rest(self):
        self.assertEqual(layer_of(REST), 0)

    def test_no_act_is_a_layer(self):
        self.assertEqual(layer_of((((0, A), (1, NONE)), None, None)), 0)

    def test_the_greatest_of_the_acts(self):
        self.assertEqual(layer_of((((0, ("layer", 1)),), None, None)), 1)
        self.assertEqual(layer_of((((0, ("layer", 2)), (1, A), (2, ("layer", 1))), None, None)), 2)
        self.assertEqual(layer_of((((0, ("layer", 1)), (1, ("layer", 2))), None, None)), 2)
        self.assertEqual(layer_of((((0, ("layer", 1)), (1, ("layer", 1))), None, None)), 1)

    def test_once_goes_ahead_of_the_acts(self):
        self.assertEqual(layer_of(((), None, 2)), 2)
        self.assertEqual(layer_of((((0, ("layer", 2)),), None, 1)), 1)
        self.assertEqual(layer_of((((0, ("layer", 1)), (1, NONE)), None, 2)), 2)

    def test_what_waits_is_no_layer_yet(self):
        self.assertEqual(layer_of(((), ((0,), 1, TAP), None)), 0)
        self.assertEqual(layer_of((((1, ("layer", 1)),), ((0,), 1, ("tap", "t", 2)), None)), 1)


class Stays(Steps):
    """Nothing is sent, and the standing stays."""

    BED = (3, ((A, B, TAP), (C, BELOW, BELOW)), (((0, 1), "x"),), 3)

    def test_a_key_that_is_down_goes_down(self):
        self.stays(self.BED, (((0, A),), None, None), down(0))
        self.stays(self.BED, (((0, NONE),), None, 1), down(0))
        self.stays(self.BED, (((2, ("layer", 1)),), None, None), down(2))

    def test_a_key_that_waits_goes_down(self):
        self.stays(self.BED, ((), ((2,), 1, TAP), None), down(2))
        self.stays(self.BED, ((), ((0,), 2, CHORD), None), down(0))
        bed = (3, ((A, B, C),), (((0, 1, 2), "x"),), 3)
        self.stays(bed, ((), ((1, 0), 0, CHORD), None), down(0))

    def test_a_key_that_is_up_goes_up(self):
        self.stays(self.BED, REST, up(0))
        self.stays(self.BED, (((0, A),), None, None), up(1))
        self.stays(self.BED, ((), ((2,), 1, TAP), None), up(0))
        self.stays(self.BED, ((), ((0,), 1, CHORD), None), up(1))
        self.stays(self.BED, ((), None, 1), up(1))

    def test_a_turn_with_nothing_that_waits(self):
        self.stays(self.BED, REST, TURN)
        self.stays(self.BED, (((0, A), (2, ("layer", 1))), None, None), TURN)
        self.stays(self.BED, ((), None, 1), TURN)


class Meanings(Steps):
    """A key goes down, and its meaning is looked up."""

    def test_a_letter(self):
        bed = (2, ((A, B),), (), 1)
        self.stepped(bed, REST, down(0), [("a", "down")], (((0, A),), None, None))
        self.stepped(bed, (((0, A),), None, None), down(1), [("b", "down")], (((0, A), (1, B)), None, None))
        self.stepped(bed, (((1, B),), None, None), down(0), [("a", "down")], (((0, A), (1, B)), None, None))

    def test_a_letter_that_another_key_has(self):
        bed = (2, ((A, A),), (), 1)
        both = (((0, A), (1, A)), None, None)
        self.stepped(bed, (((0, A),), None, None), down(1), [], both)
        self.stepped(bed, both, up(0), [], (((1, A),), None, None))
        self.stepped(bed, (((1, A),), None, None), up(1), [("a", "up")], REST)

    def test_a_layer(self):
        bed = (2, ((("layer", 1), A), (BELOW, B)), (), 1)
        held = (((0, ("layer", 1)),), None, None)
        self.stepped(bed, REST, down(0), [], held)
        self.stepped(bed, held, down(1), [("b", "down")], (((0, ("layer", 1)), (1, B)), None, None))
        self.stepped(bed, held, up(0), [], REST)

    def test_none(self):
        bed = (1, ((NONE,),), (), 1)
        self.stepped(bed, REST, down(0), [], (((0, NONE),), None, None))
        self.stepped(bed, (((0, NONE),), None, None), up(0), [], REST)

    def test_below(self):
        bed = (2, ((("layer", 1), A), (BELOW, BELOW)), (), 1)
        held = (((0, ("layer", 1)),), None, None)
        self.stepped(bed, held, down(1), [("a", "down")], (((0, ("layer", 1)), (1, A)), None, None))

    def test_below_is_layer_0_whatever_layers_lie_between(self):
        bed = (2, ((("layer", 2), A), (BELOW, B), (BELOW, BELOW)), (), 1)
        held = (((0, ("layer", 2)),), None, None)
        self.stepped(bed, held, down(1), [("a", "down")], (((0, ("layer", 2)), (1, A)), None, None))

    def test_a_tap_waits(self):
        bed = (1, ((TAP,), (A,)), (), 2)
        self.stepped(bed, REST, down(0), [], ((), ((0,), 0, TAP), None))

    def test_a_tap_on_a_higher_layer_waits(self):
        bed = (2, ((("layer", 1), A), (BELOW, ("tap", "b", 1))), (), 2)
        held = ((0, ("layer", 1)),)
        self.stepped(bed, (held, None, None), down(1), [], (held, ((1,), 0, ("tap", "b", 1)), None))

    def test_once(self):
        bed = (2, ((("once", 1), A), (BELOW, B)), (), 1)
        self.stepped(bed, REST, down(0), [], (((0, NONE),), None, 1))
        self.stepped(bed, (((0, NONE),), None, 1), up(0), [], ((), None, 1))

    def test_a_letter_of_a_chord_waits(self):
        bed = (3, ((A, B, C),), (((0, 1), "x"),), 2)
        self.stepped(bed, REST, down(0), [], ((), ((0,), 0, CHORD), None))
        self.stepped(bed, REST, down(1), [], ((), ((1,), 0, CHORD), None))
        self.stepped(bed, REST, down(2), [("c", "down")], (((2, C),), None, None))
        self.stepped(bed, (((2, C),), None, None), down(0), [], (((2, C),), ((0,), 0, CHORD), None))

    def test_a_letter_of_a_chord_does_not_wait_on_other_layers(self):
        bed = (3, ((A, B, ("layer", 1)), (C, BELOW, BELOW)), (((0, 1), "x"),), 2)
        held = (2, ("layer", 1))
        self.stepped(bed, ((held,), None, None), down(0), [("c", "down")], (((0, C), held), None, None))
        self.stepped(bed, ((held,), None, None), down(1), [("b", "down")], (((1, B), held), None, None))
        self.stepped(bed, ((), None, 1), down(1), [("b", "down")], (((1, B),), None, None))


class Once(Steps):
    """ONCE becomes None with each key whose meaning is looked up but a layer or a once."""

    BED = (
        5,
        (
            (("once", 1), A, B, C, D),
            (("once", 2), E, NONE, ("layer", 2), ("tap", "t", 2)),
            (("layer", 1), BELOW, A, BELOW, ("once", 1)),
        ),
        (((1, 2), "x"),),
        2,
    )

    def test_a_letter(self):
        self.stepped(self.BED, ((), None, 1), down(1), [("e", "down")], (((1, E),), None, None))
        self.stepped(self.BED, ((), None, 2), down(1), [("a", "down")], (((1, A),), None, None))

    def test_none(self):
        self.stepped(self.BED, ((), None, 1), down(2), [], (((2, NONE),), None, None))

    def test_a_tap(self):
        self.stepped(self.BED, ((), None, 1), down(4), [], ((), ((4,), 0, ("tap", "t", 2)), None))

    def test_a_layer_keeps_it(self):
        self.stepped(self.BED, ((), None, 1), down(3), [], (((3, ("layer", 2)),), None, 1))
        # Once goes ahead of the layer that is held.
        self.stepped(
            self.BED, (((3, ("layer", 2)),), None, 1), down(1), [("e", "down")],
            (((1, E), (3, ("layer", 2))), None, None),
        )

    def test_another_once_takes_its_place(self):
        self.stepped(self.BED, ((), None, 1), down(0), [], (((0, NONE),), None, 2))
        self.stepped(self.BED, ((), None, 2), down(4), [], (((4, NONE),), None, 1))

    def test_ups_turns_and_keys_that_are_down_keep_it(self):
        standing = (((0, NONE), (1, A)), None, 1)
        self.stepped(self.BED, standing, up(0), [], (((1, A),), None, 1))
        self.stepped(self.BED, standing, up(1), [("a", "up")], (((0, NONE),), None, 1))
        for event in (TURN, down(0), down(1), up(3)):
            self.stays(self.BED, standing, event)

    def test_it_is_good_for_the_next_key_alone(self):
        sent, standing = play(self.BED, [down(0), up(0), down(1), up(1), down(3), up(3)])
        self.assertEqual(sent, [[], [], [("e", "down")], [("e", "up")], [("c", "down")], [("c", "up")]])
        self.assertEqual(standing, REST)


class Taps(Steps):

    BED = (3, ((TAP, A, ("tap", "u", 2)), (BELOW, B, BELOW), (BELOW, C, BELOW)), (), 2)

    def test_tapped(self):
        waits = ((), ((0,), 1, TAP), None)
        self.stepped(self.BED, waits, up(0), [("t", "down"), ("t", "up")], REST)

    def test_tapped_where_another_key_has_its_letter(self):
        bed = (2, ((TAP, ("letter", "t")), (A, A)), (), 2)
        other = ((1, ("letter", "t")),)
        self.stepped(bed, (other, ((0,), 0, TAP), None), up(0), [], (other, None, None))

    def test_held_for_as_many_turns_as_wait(self):
        self.stepped(self.BED, ((), ((0,), 0, TAP), None), TURN, [], ((), ((0,), 1, TAP), None))
        self.stepped(self.BED, ((), ((0,), 1, TAP), None), TURN, [], (((0, ("layer", 1)),), None, None))

    def test_each_wait(self):
        for wait in range(1, 5):
            bed = self.BED[:3] + (wait,)
            for turns in range(wait):
                sent, standing = play(bed, [down(0)] + [TURN] * turns)
                self.assertEqual(standing, ((), ((0,), turns, TAP), None))
                self.assertEqual(play(bed, [down(0)] + [TURN] * turns + [up(0)])[0][-1], [("t", "down"), ("t", "up")])
            sent, standing = play(bed, [down(0)] + [TURN] * wait)
            self.assertEqual((sent, standing), ([[]] * (wait + 1), (((0, ("layer", 1)),), None, None)))

    def test_another_key_goes_down(self):
        waits = ((), ((0,), 1, TAP), None)
        self.stepped(self.BED, waits, down(1), [("b", "down")], (((0, ("layer", 1)), (1, B)), None, None))

    def test_another_tap_goes_down(self):
        waits = ((), ((0,), 1, TAP), None)
        held = ((0, ("layer", 1)),)
        self.stepped(self.BED, waits, down(2), [], (held, ((2,), 0, ("tap", "u", 2)), None))

    def test_another_key_goes_up(self):
        waits = (((1, A),), ((0,), 1, TAP), None)
        self.stepped(self.BED, waits, up(1), [("a", "up")], ((), ((0,), 1, TAP), None))

    def test_held_and_then_up(self):
        self.stepped(self.BED, (((0, ("layer", 1)),), None, None), up(0), [], REST)

    def test_a_chords_key_behind_a_tap_does_not_wait(self):
        bed = (3, ((A, B, TAP), (BELOW, C, BELOW)), (((0, 1), "x"),), 2)
        waits = ((), ((2,), 0, TAP), None)
        self.stepped(bed, waits, down(0), [("a", "down")], (((0, A), (2, ("layer", 1))), None, None))

    def test_layers_held_over_one_another(self):
        sent, standing = play(self.BED, [down(2), TURN, TURN, down(0), down(1)])
        self.assertEqual(sent, [[], [], [], [], [("c", "down")]])
        self.assertEqual(standing, (((0, ("layer", 1)), (1, C), (2, ("layer", 2))), None, None))
        sent, standing = play(self.BED, [down(2), TURN, TURN, down(0), TURN, TURN, up(2), down(1), up(0), up(1)])
        self.assertEqual(sent[7:], [[("b", "down")], [], [("b", "up")]])
        self.assertEqual(standing, REST)


class Chords(Steps):

    TWO = (3, ((A, B, C),), (((0, 1), "x"),), 3)
    GREATER = (4, ((A, B, C, D),), (((0, 1), "x"), ((0, 1, 2), "y")), 3)

    def test_decided_at_once(self):
        behind = (((0, ("letter", "x")), (1, NONE)), None, None)
        self.stepped(self.TWO, ((), ((0,), 2, CHORD), None), down(1), [("x", "down")], behind)
        behind = (((0, NONE), (1, ("letter", "x"))), None, None)
        self.stepped(self.TWO, ((), ((1,), 0, CHORD), None), down(0), [("x", "down")], behind)

    def test_the_first_key_has_the_letter(self):
        both = (((0, NONE), (1, ("letter", "x"))), None, None)
        self.stepped(self.TWO, both, up(0), [], (((1, ("letter", "x")),), None, None))
        self.stepped(self.TWO, both, up(1), [("x", "up")], (((0, NONE),), None, None))

    def test_not_at_once_where_a_greater_one_may_come(self):
        waits = ((), ((0, 1), 2, CHORD), None)
        self.stepped(self.GREATER, ((), ((0,), 2, CHORD), None), down(1), [], waits)
        behind = (((0, ("letter", "x")), (1, NONE)), None, None)
        self.stepped(self.GREATER, waits, TURN, [("x", "down")], behind)

    def test_the_greater_one(self):
        behind = (((0, NONE), (1, ("letter", "y")), (2, NONE)), None, None)
        self.stepped(self.GREATER, ((), ((1, 0), 1, CHORD), None), down(2), [("y", "down")], behind)
        self.stepped(self.GREATER, ((), ((1, 2), 1, CHORD), None), down(0), [("y", "down")], behind)

    def test_keys_put_at_the_end_keep_their_age(self):
        self.stepped(self.GREATER, ((), ((2,), 2, CHORD), None), down(0), [], ((), ((2, 0), 2, CHORD), None))

    def test_a_greater_one_that_has_other_keys_does_not_count(self):
        bed = (4, ((A, B, C, D),), (((0, 1), "x"), ((0, 2, 3), "y")), 3)
        behind = (((0, ("letter", "x")), (1, NONE)), None, None)
        self.stepped(bed, ((), ((0,), 0, CHORD), None), down(1), [("x", "down")], behind)
        self.stepped(bed, ((), ((0,), 0, CHORD), None), down(2), [], ((), ((0, 2), 0, CHORD), None))

    def test_another_key_goes_down(self):
        waits = ((), ((0, 1), 1, CHORD), None)
        behind = (((0, ("letter", "x")), (1, NONE), (3, D)), None, None)
        self.stepped(self.GREATER, waits, down(3), [("x", "down"), ("d", "down")], behind)
        waits = ((), ((2, 1), 1, CHORD), None)
        behind = (((1, B), (2, C), (3, D)), None, None)
        self.stepped(self.GREATER, waits, down(3), [("c", "down"), ("b", "down"), ("d", "down")], behind)

    def test_a_key_of_another_chord_goes_down(self):
        bed = (4, ((A, B, C, D),), (((0, 1), "x"), ((2, 3), "y")), 3)
        waits = ((), ((0,), 2, CHORD), None)
        self.stepped(bed, waits, down(2), [("a", "down")], (((0, A),), ((2,), 0, CHORD), None))

    def test_a_key_that_is_in_chords_with_each_but_not_with_all(self):
        bed = (3, ((A, B, C),), (((0, 1), "x"), ((0, 2), "y"), ((1, 2), "z")), 3)
        acts = ((0, ("letter", "x")), (1, NONE))
        self.stepped(bed, ((), ((0,), 0, CHORD), None), down(1), [("x", "down")], (acts, None, None))
        self.stepped(bed, (acts, None, None), down(2), [], (acts, ((2,), 0, CHORD), None))

    def test_a_tap_goes_down_behind(self):
        bed = (3, ((A, B, TAP), (C, C, C)), (((0, 1), "x"),), 3)
        waits = ((), ((1,), 1, CHORD), None)
        self.stepped(bed, waits, down(2), [("b", "down")], (((1, B),), ((2,), 0, TAP), None))

    def test_a_once_and_a_layer_go_down_behind(self):
        bed = (4, ((A, B, ("once", 1), ("layer", 1)), (C, C, C, C)), (((0, 1), "x"),), 3)
        waits = ((), ((1,), 1, CHORD), None)
        self.stepped(bed, waits, down(2), [("b", "down")], (((1, B), (2, NONE)), None, 1))
        self.stepped(bed, waits, down(3), [("b", "down")], (((1, B), (3, ("layer", 1))), None, None))

    def test_one_of_its_keys_goes_up(self):
        waits = ((), ((0,), 1, CHORD), None)
        self.stepped(self.TWO, waits, up(0), [("a", "down"), ("a", "up")], REST)
        waits = ((), ((1, 0), 1, CHORD), None)
        behind = (((0, NONE),), None, None)
        self.stepped(self.GREATER, waits, up(1), [("x", "down"), ("x", "up")], behind)
        behind = (((1, ("letter", "x")),), None, None)
        self.stepped(self.GREATER, waits, up(0), [("x", "down")], behind)
        waits = ((), ((2, 0), 1, CHORD), None)
        behind = (((0, A),), None, None)
        self.stepped(self.GREATER, waits, up(2), [("c", "down"), ("a", "down"), ("c", "up")], behind)

    def test_another_key_goes_up(self):
        waits = (((3, D),), ((0, 1), 1, CHORD), None)
        self.stepped(self.GREATER, waits, up(3), [("d", "up")], ((), ((0, 1), 1, CHORD), None))

    def test_turns(self):
        waits = ((), ((2, 0), 1, CHORD), None)
        self.stepped(self.GREATER, waits, TURN, [], ((), ((2, 0), 2, CHORD), None))
        waits = ((), ((2, 0), 2, CHORD), None)
        behind = (((0, A), (2, C)), None, None)
        self.stepped(self.GREATER, waits, TURN, [("c", "down"), ("a", "down")], behind)

    def test_letters_that_are_down_already(self):
        bed = (4, ((A, B, ("letter", "x"), A),), (((0, 1), "x"),), 3)
        other = ((2, ("letter", "x")), (3, A))
        waits = (other, ((1,), 0, CHORD), None)
        self.stepped(bed, waits, down(0), [], (((0, NONE), (1, ("letter", "x"))) + other, None, None))
        waits = (other, ((0,), 2, CHORD), None)
        self.stepped(bed, waits, TURN, [], (((0, A),) + other, None, None))
        self.stepped(bed, waits, up(0), [], (other, None, None))

    def test_two_keys_with_one_letter(self):
        bed = (3, ((A, A, A),), (((0, 1, 2), "x"),), 1)
        waits = ((), ((1, 0), 0, CHORD), None)
        self.stepped(bed, waits, TURN, [("a", "down")], (((0, A), (1, A)), None, None))
        self.stepped(bed, waits, up(1), [("a", "down")], (((0, A),), None, None))

    def test_no_chord_on_another_layer(self):
        # Rows of events don't lead here: a chord waits on layer 0 alone.
        bed = (3, ((A, B, ("layer", 1)), (C, D, BELOW)), (((0, 1), "x"),), 3)
        held = (2, ("layer", 1))
        waits = ((held,), ((0,), 1, CHORD), None)
        self.stepped(bed, waits, down(1), [("a", "down"), ("d", "down")], (((0, A), (1, D), held), None, None))

    def test_layers_are_looked_up_where_the_key_goes_down(self):
        bed = (2, ((("layer", 1), A), (BELOW, B)), (), 1)
        sent, standing = play(bed, [down(0), down(1), up(0), up(1), down(1)])
        self.assertEqual(sent, [[], [("b", "down")], [], [("b", "up")], [("a", "down")]])
        self.assertEqual(standing, (((1, A),), None, None))


class Rows(unittest.TestCase):

    def test_no_events(self):
        for bed in chosen_beds():
            self.assertEqual(play(bed, []), ([], REST))

    def test_a_tap_a_chord_and_a_once_in_one_row(self):
        bed = (5, ((A, B, C, ("tap", "t", 1), ("once", 2)), (BELOW, BELOW, D, NONE, NONE),
                   (BELOW, BELOW, E, NONE, NONE)), (((0, 1), "x"),), 2)
        self.assertEqual(checked(bed), bed)
        sent, standing = play(bed, [
            down(3), up(3), down(1), down(0), up(0), up(1), down(4), down(2), up(4), up(2),
            down(3), down(2), up(3), up(2), down(2), up(2), down(0), TURN, TURN, up(0),
        ])
        self.assertEqual(sent, [
            [], [("t", "down"), ("t", "up")], [], [("x", "down")], [], [("x", "up")],
            [], [("e", "down")], [], [("e", "up")], [], [("d", "down")], [], [("d", "up")],
            [("c", "down")], [("c", "up")], [], [], [("a", "down")], [("a", "up")],
        ])
        self.assertEqual(standing, REST)

    def test_kinds(self):
        bed = (2, ((A, B),), (((0, 1), "x"),), 1)
        answer = play(bed, [down(0), up(0), down(1)])
        self.assertIs(type(answer), tuple)
        self.assertEqual([type(part) for part in answer], [list, tuple])
        for sent in answer[0]:
            self.assertIs(type(sent), list)
            for one in sent:
                self.assertEqual((type(one), type(one[0]), type(one[1])), (tuple, str, str))
        self.assertEqual([type(part) for part in answer[1]], [tuple, tuple, type(None)])
        answer = step(bed, REST, down(0))
        self.assertEqual([type(answer)] + [type(part) for part in answer], [tuple, list, tuple])

    def test_a_row_is_its_steps(self):
        for bed in chosen_beds():
            events = (all_events(bed) * 40)[::3][:200]
            standing = REST
            all_sent = []
            for event in events:
                sent, standing = step(bed, standing, event)
                all_sent.append(sent)
            self.assertEqual(play(bed, events), (all_sent, standing))

    def test_the_list_handed_in_stays(self):
        bed = chosen_beds()[3]
        events = [down(0), down(1), TURN, up(0), up(1)]
        before = list(events)
        play(bed, events)
        self.assertEqual(events, before)

    def test_each_list_is_the_askers_own(self):
        bed = (2, ((A, A),), (), 1)
        first = play(bed, [down(0), TURN, TURN])
        first[0][1].append("more")
        self.assertEqual(first[0], [[("a", "down")], ["more"], []])
        self.assertEqual(play(bed, [down(0), TURN, TURN]), ([[("a", "down")], [], []], (((0, A),), None, None)))
        one = step(bed, REST, TURN)[0]
        one.append("more")
        self.assertEqual(step(bed, REST, TURN)[0], [])


class AgainstThePlainWords(unittest.TestCase):

    def test_all_standings_and_events_of_chosen_beds(self):
        for bed in chosen_beds() + more_beds():
            self.assertEqual(checked(bed), bed)
            for standing in reached(bed, 1500):
                self.assertEqual(layer_of(standing), plain_layer(standing[0], standing[2]))
                for event in all_events(bed):
                    answer = step(bed, standing, event)
                    self.assertEqual(answer, plain_step(bed, standing, event), (bed, standing, event))

    def test_all_short_rows_of_events(self):
        for bed in chosen_beds():
            length = 6 if bed[0] == 1 else 4 if bed[0] < 4 else 3
            for events in product(all_events(bed), repeat=length):
                standing = REST
                all_sent = []
                for event in events:
                    sent, standing = plain_step(bed, standing, event)
                    all_sent.append(sent)
                self.assertEqual(play(bed, list(events)), (all_sent, standing), (bed, events))


class TakingTurns(unittest.TestCase):
    """For each letter downs and ups take turns; where no key is down, no letter is."""

    def letters_of(self, standing):
        return {act[1] for key, act in standing[0] if act[0] == "letter"}

    def test_each_step_sends_what_changes_its_letters(self):
        for bed in chosen_beds() + more_beds():
            for standing in reached(bed, 1500):
                for event in all_events(bed):
                    sent, behind = step(bed, standing, event)
                    letters = self.letters_of(standing)
                    self.sent_in_turns(letters, sent)
                    self.assertEqual(letters, self.letters_of(behind), (bed, standing, event))

    def sent_in_turns(self, letters, sent):
        for letter, word in sent:
            self.assertIn(word, ("down", "up"))
            self.assertEqual(letter in letters, word == "up")
            letters ^= {letter}

    def test_long_rows(self):
        for bed in chosen_beds() + more_beds():
            events = all_events(bed)
            for stride in (1, 3, 7, 13):
                row = [events[number * stride * (1 + number // 5) % len(events)] for number in range(150)]
                self.row_in_turns(bed, row)

    def row_in_turns(self, bed, row):
        all_sent, standing = play(bed, row)
        keys, letters = set(), set()
        for (word, key), sent in zip(row, all_sent):
            if word == "down":
                keys.add(key)
            if word == "up":
                keys.discard(key)
            self.sent_in_turns(letters, sent)
            if not keys:
                self.assertEqual(letters, set(), (bed, row))
        waiting = standing[1][0] if standing[1] is not None else ()
        self.assertEqual(sorted([key for key, act in standing[0]] + list(waiting)), sorted(keys))

    def test_all_keys_up_at_the_end(self):
        for bed in chosen_beds():
            ups = [up(key) for key in range(bed[0])]
            for events in product([down(key) for key in range(bed[0])] + [TURN], repeat=3):
                all_sent, standing = play(bed, list(events) + ups)
                self.assertEqual(standing[:2], ((), None))
                letters = set()
                self.sent_in_turns(letters, sum(all_sent, []))
                self.assertEqual(letters, set())


if __name__ == "__main__":
    unittest.main()
