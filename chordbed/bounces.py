"""Bounces: one key's readings told as downs and ups."""

WORDS = ("up", "down")


def told(readings, bound):
    """The changes (TURN, WORD) of one key's readings, no two closer than the bound."""
    changes = []
    last = 0
    # The first change waits for nothing.
    free_from = 0
    for turn, reading in enumerate(readings):
        if reading != last and turn >= free_from:
            changes.append((turn, WORDS[reading]))
            last = reading
            free_from = turn + bound
    return changes
