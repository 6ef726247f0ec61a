"""Scans: a frame's readings, turn by turn, told as keys that go down and up."""

from chordbed.bounces import OneKey
from chordbed.readings import seen


class Teller:
    """Is told a frame's readings, and tells which keys go down and up."""

    def __init__(self, frame, bound):
        self.frame = frame
        self.each_key = [OneKey(bound) for spot in frame[2]]

    def scan(self, reading):
        """One turn's changes (WORD, KEY), by keys; refused with NoReading, and then no turn."""
        # All words come first: a reading that is refused reaches no key.
        words = seen(self.frame, reading)
        changes = []
        for key, word in enumerate(words):
            change = self.tell_one(key, word)
            if change is not None:
                changes.append((change, key))
        return changes

    def down(self):
        """The set of the keys told down."""
        return tuple([key for key, one_key in enumerate(self.each_key) if one_key.last == 1])

    def tell_one(self, key, word):
        """What is told in this turn of a key that is seen so."""
        one_key = self.each_key[key]
        # What is unsure is no ground for a change.
        if word == "unsure":
            return one_key.tell(one_key.last)
        return one_key.tell(1 if word == "sure" else 0)
