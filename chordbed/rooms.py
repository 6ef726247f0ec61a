"""Rooms: the standings to which rows of events lead, each with the step that led to it first."""

from chordbed.errors import TooMany
from chordbed.plain import AT_REST, step


def events_of(bed):
    """The events of a bed: the downs by keys, the ups by keys, the turn."""
    downs = [("down", key) for key in range(bed[0])]
    ups = [("up", key) for key in range(bed[0])]
    return downs + ups + [("turn", 0)]


def rooms(bed, most=400):
    """The rooms (STANDING, BACK, EVENT) of a bed, as they come; refused with TooMany."""
    return walked(bed, most)[0]


def walked(bed, most):
    """A bed's rooms, and two lists by rooms: where each event steps to, and what it sends."""
    events = events_of(bed)
    places = Places(AT_REST, most)
    steps = []
    sends = []
    # Not a walk over the rooms: they grow underway.
    while len(steps) < len(places.found):
        room = len(steps)
        standing = places.found[room][0]
        answers = [step(bed, standing, event) for event in events]
        steps.append(tuple([places.enter(answer[1], room, event) for event, answer in zip(events, answers)]))
        sends.append(tuple([tuple(answer[0]) for answer in answers]))
    return (places.found, steps, sends)


class Places:
    """Places numbered as they come, each with the number of the one it was come from, and the event."""

    def __init__(self, first, most):
        self.most = most
        self.found = []
        self.numbers = {}
        self.enter(first, None, None)

    def enter(self, place, back, event):
        """The number of a place, the next one where it is new; refused with TooMany."""
        if place not in self.numbers:
            if len(self.found) >= self.most:
                raise TooMany(self.most)
            self.numbers[place] = len(self.found)
            self.found.append((place, back, event))
        return self.numbers[place]

    def way_to(self, number):
        """The row of events over which a place was come to first."""
        row = []
        place = self.found[number]
        while place[1] is not None:
            row.append(place[2])
            place = self.found[place[1]]
        return list(reversed(row))
