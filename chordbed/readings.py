"""Readings: what they tell of the keys, and why."""

from chordbed.errors import NoReading
from chordbed.frames import reads


def pieces(frame, reading):
    """The pieces (ROWS, COLUMNS) of a reading; refused with NoReading."""
    keys_read(frame, reading)
    found = []
    for row, number in enumerate(reading):
        # Each piece comes at its first row, so the list is sorted as it grows.
        if number != 0 and number not in reading[:row]:
            found.append(wires_with(frame, reading, row))
    return found


def seen(frame, reading):
    """For each key "up", "sure" or "unsure"; refused with NoReading."""
    keys = keys_read(frame, reading)
    return tuple([word_of(frame, reading, keys, key) for key in range(len(frame[2]))])


def why(frame, reading, key):
    """What shows that a key is sure or unsure, None where it is up; refused with NoReading."""
    keys = keys_read(frame, reading)
    word = word_of(frame, reading, keys, key)
    if word == "up":
        return None
    others = without(keys, key)
    if word == "unsure":
        return (keys, others)
    return wires_with(frame, reads(frame, others), frame[2][key][0])


def keys_read(frame, reading):
    """The set of all keys that aren't up in a reading; refused with NoReading."""
    if len(reading) != frame[0]:
        raise NoReading("not a number for each row")
    keys = tuple([key for key, spot in enumerate(frame[2]) if reads_column(reading[spot[0]], spot[1])])
    # A set that reads so lies within these keys, and the others of them lead
    # between wires that hang together anyway: these read so too, or no set does.
    # A number out of bounds is never read, so it is refused here as well.
    if reads(frame, keys) != reading:
        raise NoReading("no set of keys reads so")
    return keys


def word_of(frame, reading, keys, key):
    """One key's word, where keys are all that aren't up."""
    if key not in keys:
        return "up"
    # All others that may be down read the most that can be read without it.
    if reads(frame, without(keys, key)) == reading:
        return "unsure"
    return "sure"


def without(keys, key):
    """A set of keys less one key."""
    return tuple([other for other in keys if other != key])


def wires_with(frame, reading, row):
    """The rows and columns that hang together with a row, itself among them."""
    number = reading[row]
    # A row that reads nothing hangs together with no other that reads nothing.
    rows = [other for other in range(frame[0]) if other == row or reading[other] & number != 0]
    columns = [column for column in range(frame[1]) if reads_column(number, column)]
    return (tuple(rows), tuple(columns))


def reads_column(number, column):
    """Whether a row's number has a column in it."""
    return (number >> column) & 1 == 1
