"""Bounces: one key's readings told as downs and ups."""

WORDS = ("up", "down")


class OneKey:
    """What was told of one key last, and from which turn on a change may be told."""

    def __init__(self, bound):
        self.bound = bound
        self.last = 0
        self.turns = 0
        # The first change waits for nothing.
        self.free_from = 0

    def tell(self, reading):
        """The word that is told in the next turn; None where no change is."""
        turn = self.turns
        self.turns = turn + 1
        if reading == self.last or turn < self.free_from:
            return None
        self.last = reading
        self.free_from = turn + self.bound
        return WORDS[reading]


def told(readings, bound):
    """The changes (TURN, WORD) of one key's readings, no two closer than the bound."""
    one_key = OneKey(bound)
    words = [one_key.tell(reading) for reading in readings]
    return [(turn, word) for turn, word in enumerate(words) if word is not None]
