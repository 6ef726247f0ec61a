"""Machines: a bed as steps between as few states as can be."""

from chordbed.rooms import events_of, walked


def machine(bed, most=400):
    """The machine (STEPS, SENDS) of a bed; refused with TooMany, for the bed's rooms."""
    sorting = Sorting(bed, most)
    state_of = sorting.rounds[-1]
    # Rooms and states both come by their first rows of events, so the states come as their first rooms do.
    firsts = [state_of.index(state) for state in range(max(state_of) + 1)]
    steps = tuple([tuple([state_of[room] for room in sorting.steps[first]]) for first in firsts])
    return (steps, tuple([sorting.sends[first] for first in firsts]))


def states(bed, most=400):
    """The state of each room of a bed; refused as its machine."""
    return Sorting(bed, most).rounds[-1]


def apart(bed, one, other, most=400):
    """A row of events in whose last step two states send unlike things, None for one and itself; refused likewise."""
    sorting = Sorting(bed, most)
    if one == other:
        return None
    state_of = sorting.rounds[-1]
    events = events_of(bed)
    return [events[place] for place in sorting.row_apart(state_of.index(one), state_of.index(other))]


class Sorting:
    """A bed's rooms, sorted more finely round by round.

    In the first round rooms are alike that send alike in one step, in each later one
    those that send alike in as many steps as there were rounds; the last one tells
    apart all that ever can be.
    """

    def __init__(self, bed, most):
        walk = walked(bed, most)
        self.steps = walk[1]
        self.sends = walk[2]
        self.rounds = []
        finer = numbered(self.sends)
        # A round that tells no more rooms apart is the same as the one before, and so would be all behind it.
        while self.rounds == [] or max(finer) > max(self.rounds[-1]):
            self.rounds.append(finer)
            finer = numbered([self.mark_of(room) for room in range(len(self.steps))])

    def mark_of(self, room):
        """What makes a room unlike others in the next round."""
        alike = self.rounds[-1]
        return (alike[room], tuple([alike[there] for there in self.steps[room]]))

    def row_apart(self, one, other):
        """The places of the events of a shortest row in whose last step two unlike rooms send unlike things."""
        row = []
        first = [alike[one] != alike[other] for alike in self.rounds].index(True)
        for alike in reversed(self.rounds[:first]):
            place = unlike_at([alike[room] for room in self.steps[one]], [alike[room] for room in self.steps[other]])
            row.append(place)
            one = self.steps[one][place]
            other = self.steps[other][place]
        return row + [unlike_at(self.sends[one], self.sends[other])]


def numbered(marks):
    """A number for each mark, alike ones for marks that are alike, from 0 on as they come."""
    numbers = {}
    return [numbers.setdefault(mark, len(numbers)) for mark in marks]


def unlike_at(ones, others):
    """The first place at which two rows are unlike."""
    return [one != other for one, other in zip(ones, others)].index(True)
