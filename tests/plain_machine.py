"""A slow, plain telling of rooms, states and pairs, from the steps of tests/plain_bed.py, and beds for it.

Nothing here is drawn from the package.
"""

from itertools import product

from tests.plain_bed import A, B, BELOW, C, NONE, REST, all_events, chosen_beds, more_beds, plain_step

MANY = 100000
# Beds whose rooms are just as many as rooms, machine and same take by themselves, and one more.
JUST_400 = (
    (5, ((NONE, ("letter", "d"), C, ("letter", "d"), ("once", 1)), (B, ("layer", 1), ("layer", 1), NONE, A)), (), 4),
    (5, ((B, ("tap", "a", 1), ("tap", "b", 1), ("tap", "b", 1), B),
         (("once", 1), BELOW, ("once", 1), C, BELOW)), (), 3),
)
JUST_401 = (
    (4, ((("once", 1), ("once", 2), C, A), (("layer", 1), B, C, ("once", 2)), (C, A, ("tap", "b", 2), C)), (), 1),
    (4, ((("layer", 1), C, ("layer", 1), ("tap", "a", 2)), (BELOW, ("once", 2), NONE, B),
         (C, ("tap", "a", 2), ("tap", "b", 1), BELOW)), (), 3),
)


def plain_rooms(bed):
    """The rooms of a bed [20]: row by row of events, the shorter ones first, then as their events come."""
    events = all_events(bed)
    found = [(REST, None, None)]
    numbers = {REST: 0}
    newest = [REST]
    while newest:
        steps = [(here, event, plain_step(bed, here, event)[1]) for here in newest for event in events]
        newest = []
        for here, event, there in steps:
            if there not in numbers:
                numbers[there] = len(found)
                found.append((there, numbers[here], event))
                newest.append(there)
    return found


def told_apart(bed, standings):
    """All pairs of numbers of these standings (the lesser first) that some row of events tells apart.

    First those that send unlike things in one step, then, again and again, those from which
    a step leads to a pair that is told apart.
    """
    events = all_events(bed)
    numbers = {standing: number for number, standing in enumerate(standings)}
    answers = [[plain_step(bed, standing, event) for event in events] for standing in standings]
    steps = [[numbers[there] for sent, there in row] for row in answers]
    sends = [[sent for sent, there in row] for row in answers]
    open_pairs = [(one, other) for other in range(len(standings)) for one in range(other)]
    apart = {(one, other) for one, other in open_pairs if sends[one] != sends[other]}
    grown = True
    while grown:
        open_pairs = [pair for pair in open_pairs if pair not in apart]
        found = {
            (one, other) for one, other in open_pairs
            if any((min(pair), max(pair)) in apart for pair in zip(steps[one], steps[other]))
        }
        grown = bool(found)
        apart |= found
    return apart


def plain_states(bed, standings):
    """For each standing the number of its state, as they come: alike where no row tells two apart."""
    apart = told_apart(bed, standings)
    states, firsts = [], []
    for number in range(len(standings)):
        alike = [state for state, first in enumerate(firsts) if (first, number) not in apart]
        if not alike:
            alike = [len(firsts)]
            firsts.append(number)
        states.append(alike[0])
    return states


def plain_same(one, other):
    """The pairs of standings that the same rows lead to, and the least number of steps to an unlike one, or None."""
    events = all_events(one)
    found = {(REST, REST)}
    newest = [(REST, REST)]
    length, unlike = 0, None
    while newest:
        length += 1
        steps = [
            (plain_step(one, pair[0], event), plain_step(other, pair[1], event)) for pair in newest for event in events
        ]
        if unlike is None and any(first[0] != second[0] for first, second in steps):
            unlike = length
        newest = []
        for first, second in steps:
            pair = (first[1], second[1])
            if pair not in found:
                found.add(pair)
                newest.append(pair)
    return found, unlike


def sent_from(bed, standing, events):
    """What is sent in each step of a row of events from a standing."""
    all_sent = []
    for event in events:
        sent, standing = plain_step(bed, standing, event)
        all_sent.append(sent)
    return all_sent


def folding_beds():
    """Beds of which unlike standings send alike for ever, so that their machines have fewer states than rooms."""
    return [
        (1, ((NONE,),), (), 1),
        (3, ((NONE, NONE, NONE),), (), 2),
        (2, ((A, NONE),), (), 1),
        (3, ((A, A, NONE),), (), 1),
        (5, ((A, NONE, NONE, B, NONE),), (), 1),
        (2, ((("layer", 1), A), (BELOW, BELOW)), (), 1),
        (2, ((("layer", 1), A), (NONE, A)), (), 1),
        (2, ((("once", 1), A), (BELOW, BELOW)), (), 2),
        (2, ((("once", 1), NONE), (NONE, NONE)), (), 2),
        (3, ((("once", 1), ("once", 2), A), (BELOW, BELOW, B), (BELOW, BELOW, B)), (), 1),
    ]


def small_beds():
    """Beds of one key and of two, with all pairs of some meanings: on two layers, or on the first one."""
    beds = []
    for low, high in product((A, NONE, ("layer", 1), ("tap", "a", 1), ("once", 1)), repeat=2):
        beds.append((1, ((low,), (high,)), (), 2))
        for upper in ((A, B), (BELOW, BELOW), (B, ("tap", "b", 1)), (("once", 1), NONE)):
            beds.append((2, ((low, high), upper), (((0, 1), "b"),) if low == high == A else (), 2))
    return beds


def all_beds():
    """Every bed of these tests."""
    return chosen_beds() + more_beds() + folding_beds() + small_beds()


def beds_up_to(most):
    """The beds of these tests that have no more than so many rooms, with their standings."""
    found = []
    for bed in all_beds():
        standings = [room[0] for room in plain_rooms(bed)]
        if len(standings) <= most:
            found.append((bed, standings))
    return found
