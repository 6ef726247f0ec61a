"""Frames: wires in rows and columns, keys at spots, and what they read."""

from chordbed.errors import NoFrame

MOST_WIRES = 6
MOST_KEYS = 12


def frame_of(rows, columns, spots):
    """The frame (ROWS, COLUMNS, SPOTS); refused with NoFrame."""
    if not 1 <= rows <= MOST_WIRES or not 1 <= columns <= MOST_WIRES:
        raise NoFrame(None)
    if not 1 <= len(spots) <= MOST_KEYS:
        raise NoFrame(None)
    for place, spot in enumerate(spots):
        if not is_within(rows, columns, spot) or spot in spots[:place]:
            raise NoFrame(place)
    return (rows, columns, tuple(spots))


def is_within(rows, columns, spot):
    """Whether a spot lies where a row and a column cross."""
    return 0 <= spot[0] < rows and 0 <= spot[1] < columns


def reads(frame, keys):
    """The reading of a set of keys that are down: a number for each row."""
    numbers = [0] * frame[0]
    for key in keys:
        spot = frame[2][key]
        numbers[spot[0]] = numbers[spot[0]] | (1 << spot[1])
    return tuple(spread(numbers))


def spread(numbers):
    """What the rows read, of the columns to which a key leads from each straight."""
    wider = [joined(number, numbers) for number in numbers]
    # One pass need not reach the far end of a long chain of rows and columns.
    while wider != numbers:
        numbers = wider
        wider = [joined(number, numbers) for number in numbers]
    return numbers


def joined(number, numbers):
    """A row's columns with those of each row that shares one with it."""
    for other in numbers:
        if other & number != 0:
            number = number | other
    return number
