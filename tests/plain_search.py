"""What the document says of frames, readings and bounces, searched for plainly.

Nothing here draws from the package: it walks from wire to wire and goes through
all sets of keys, so that the package's short ways can be held against it.
"""

from itertools import combinations, product


def hangs_with(frame, keys, wire):
    """All wires ("row", N) and ("column", N) that one comes to from a wire."""
    rows_and_columns = [(("row", frame[2][k][0]), ("column", frame[2][k][1])) for k in keys]
    reached = {wire}
    waiting = [wire]
    while waiting:
        here = waiting.pop()
        for pair in rows_and_columns:
            if here in pair:
                for there in pair:
                    if there not in reached:
                        reached.add(there)
                        waiting.append(there)
    return reached


def numbers_of(wires, kind):
    """The numbers of the wires of one kind, rising."""
    return tuple(sorted(number for word, number in wires if word == kind))


def plain_reading(frame, keys):
    """The reading of a set of keys."""
    reading = []
    for row in range(frame[0]):
        columns = numbers_of(hangs_with(frame, keys, ("row", row)), "column")
        reading.append(sum(2 ** column for column in columns))
    return tuple(reading)


def sets_of(count):
    """All sets of the keys below a number."""
    return [keys for size in range(count + 1) for keys in combinations(range(count), size)]


def sets_by_reading(frame):
    """For each reading that can be, all sets of keys that read so."""
    found = {}
    for keys in sets_of(len(frame[2])):
        found.setdefault(plain_reading(frame, keys), []).append(keys)
    return found


def plain_pieces(frame, keys):
    """The pieces of what a set of keys reads."""
    found = set()
    for row in range(frame[0]):
        wires = hangs_with(frame, keys, ("row", row))
        if numbers_of(wires, "column"):
            found.add((numbers_of(wires, "row"), numbers_of(wires, "column")))
    return sorted(found)


def plain_word(frame, keys, alike, key):
    """One key's word, where keys are one of the sets in alike, which all read so."""
    row, column = frame[2][key]
    if ("column", column) not in hangs_with(frame, keys, ("row", row)):
        return "up"
    return "sure" if all(key in one for one in alike) else "unsure"


def all_numbers(frame):
    """All tuples of numbers in bounds, one for each row: readings that can be and others."""
    return product(range(2 ** frame[1]), repeat=frame[0])


def small_frames():
    """Frames small enough to go through all sets of keys and all tuples of numbers."""
    crossings = [(row, column) for row in range(2) for column in range(2)]
    frames = [(1, 1, ((0, 0),)), (1, 4, ((0, 2), (0, 0), (0, 3))), (4, 1, ((3, 0), (1, 0), (0, 0)))]
    for size in range(1, 5):
        frames += [(2, 2, spots) for spots in combinations(crossings, size)]
    frames.append((2, 3, ((1, 2), (0, 0), (0, 2), (1, 0), (0, 1), (1, 1))))
    frames.append((3, 2, ((2, 1), (0, 0), (1, 0), (1, 1), (2, 0))))
    frames.append((3, 3, ((0, 0), (0, 1), (1, 1), (1, 2), (2, 2))))
    frames.append((3, 3, ((2, 2), (2, 0), (0, 1), (1, 0), (0, 0), (1, 1), (0, 2))))
    frames.append((3, 3, tuple((row, column) for row in range(3) for column in range(3))))
    frames.append((4, 2, ((0, 0), (1, 0), (1, 1), (2, 1), (3, 0), (3, 1))))
    return frames


def chain_frame():
    """A frame of twelve keys in a ring over all its six rows and columns."""
    spots = []
    for wire in (3, 0, 5, 1, 4, 2):
        spots += [(wire, wire), (wire, (wire + 1) % 6)]
    return (6, 6, tuple(spots))


def plain_told(readings, bound):
    """What [8] says, word by word: each turn looks back at all that was told."""
    changes = []
    for turn in range(len(readings)):
        last = 1 if changes and changes[-1][1] == "down" else 0
        if readings[turn] != last and (not changes or turn - changes[-1][0] >= bound):
            changes.append((turn, "down" if readings[turn] == 1 else "up"))
    return changes
