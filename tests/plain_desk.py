"""A second, plain desk, from the searches and steps of the other plain files, and rows to tell to both.

Nothing here is drawn from the package. What it would refuse it tells as a tuple: the class's name, then its fields.
"""

import re
from functools import lru_cache

from tests.plain_bed import A, B, BELOW, C, D, NONE, REST, plain_step
from tests.plain_keying import plain_ways
from tests.plain_machine import plain_rooms, plain_states
from tests.plain_search import plain_reading, plain_told, plain_word, sets_by_reading

NUMBER = "(?:0|[1-9][0-9]?)"
NUMBERS = f"{NUMBER}(?:,{NUMBER})*"
SPOTS = rf"{NUMBER}\.{NUMBER}(?:,{NUMBER}\.{NUMBER})*"
ROW = re.compile(
    f"(frame) ({NUMBER}) ({NUMBER}) ({NUMBER}) ({SPOTS})|(scan|seen) ({NUMBERS})|(down|up) ({NUMBER})"
    "|(word) ([a-z]+)|(keys|turn|states)"
)
# Beds' texts, each with the bed that it writes or the refusal.
BEDS = {
    "keys 1 wait 1\nlayer a": (1, ((A,),), (), 1),
    "keys 1 wait 2\nlayer a>1\nlayer b": (1, ((("tap", "a", 1),), (B,)), (), 2),
    "keys 2 wait 2\nlayer a b\nchord 0+1 c": (2, ((A, B),), (((0, 1), "c"),), 2),
    "keys 2 wait 3\nlayer ~1 a\nlayer _ b": (2, ((("once", 1), A), (BELOW, B)), (), 3),
    "keys 3 wait 2\nlayer a b c>1\nlayer c _ _\nchord 0+1 d": (
        3, ((A, B, ("tap", "c", 1)), (C, BELOW, BELOW)), (((0, 1), "d"),), 2,
    ),
    "keys 3 wait 1\nlayer >2 >1 a\nlayer _ _ b\nlayer . . c": (
        3, ((("layer", 2), ("layer", 1), A), (BELOW, BELOW, B), (NONE, NONE, C)), (), 1,
    ),
    "keys 4 wait 2\nlayer a a a>1 .\nlayer b _ >1 d\nchord 0+1 a": (
        4, ((A, A, ("tap", "a", 1), NONE), (B, BELOW, ("layer", 1), D)), (((0, 1), "a"),), 2,
    ),
    "keys 5 wait 1\nlayer a b c d a": (5, ((A, B, C, D, A),), (), 1),
    "": ("NoText", 0),
    "keys 1 wait 1\nlayer a\n": ("NoText", 2),
    "keys 1 wait 1\nlayer  a": ("NoText", 1),
    "keys 2 wait 1\nlayer a b\nchord 0+1 c\nlayer a b": ("NoText", 3),
    "keys 6 wait 1\nlayer a": ("NoBed", None, None),
    "keys 1 wait 1": ("NoBed", None, None),
    "keys 2 wait 1\nlayer a": ("NoBed", 0, None),
    "keys 2 wait 1\nlayer a b\nlayer _ ~2": ("NoBed", 1, 1),
    "keys 2 wait 1\nlayer a b\nchord 0+1 c\nchord 1+0 c": ("NoChord", 1),
}
FRAMES = (
    (1, 1, ((0, 0),)),
    (1, 3, ((0, 2), (0, 0), (0, 1))),
    (2, 2, ((0, 0), (0, 1), (1, 0), (1, 1))),
    (2, 3, ((1, 2), (0, 0), (0, 2), (1, 0), (0, 1), (1, 1))),
    (3, 2, ((2, 1), (0, 0), (1, 0), (1, 1), (2, 0))),
    (6, 6, ((5, 5), (0, 0), (5, 0))),
)
NO_FRAMES = (
    "frame 7 1 0 0.0", "frame 1 0 0 0.0", "frame 2 2 0 0.0,0.1,0.0", "frame 2 2 0 0.2", "frame 2 2 1 1.1,0.0,2.0,0.0",
    "frame 2 6 0 " + ",".join(f"{row}.{column}" for row in range(3) for column in range(6)),
)
NO_ROWS = (
    "", " ", "turns", "Turn", "turn ", " turn", "turn 0", "keys 0", "states 1", "down", "up", "down 0 1", "down  0",
    "down 00", "down -1", "down 100", "up a", "scan", "scan ", "scan 0 0", "scan 0,", "scan ,0", "scan 0,,0", "scan 01",
    "seen", "seen 0;0", "seen 0, 0", "word", "word ", "word A", "word a b", "word a1", "bed", "bed ", "bed keys",
    "bed \nkeys 1 wait 1\nlayer a", "frame", "frame 1 1 0", "frame 1 1 0 ", "frame 1 1 0 0", "frame 1 1 0 0.0.0",
    "frame 1 1 0 0,0", "frame 1 1 0 0.0 ", "frame 1 1 0 0.0,", "frame 1 1 0 00.0", "frame 1 1 100 0.0", "turn\n",
    "frame 01 1 0 0.0", "frame 1 1 0.0", "frame 1 1 -1 0.0", "down 0\n", "word a\n", "\nturn", "down\t0", "key", "say",
)


@lru_cache(maxsize=None)
def sets_of_readings(frame):
    """For each reading that can be, all sets of keys that read so; looked up but once for each frame."""
    return sets_by_reading(frame)


class PlainDesk:
    """A frame, a bound, all readings of each key since the frame was told, a bed and its standing."""

    def __init__(self):
        self.frame = (1, 1, ((0, 0),))
        self.bound = 0
        self.read = [[]]
        self.bed = (1, ((A,),), (), 1)
        self.standing = REST

    def answer(self, row):
        """The text that answers a row, or a tuple of what refuses it."""
        if row.startswith("bed\n"):
            return self.new_bed(BEDS[row[4:]])
        match = ROW.fullmatch(row)
        if match is None:
            return ("NoRow",)
        words = [part for part in match.groups() if part is not None]
        return getattr(self, "on_" + words[0])(*words[1:])

    def new_bed(self, bed):
        if isinstance(bed[0], str):
            return bed
        self.bed, self.standing = bed, REST
        return "ok"

    def on_frame(self, rows, columns, bound, spots):
        rows, columns = int(rows), int(columns)
        spots = tuple(tuple(map(int, spot.split("."))) for spot in spots.split(","))
        if rows not in range(1, 7) or columns not in range(1, 7) or len(spots) > 12:
            return ("NoFrame", None)
        for place, spot in enumerate(spots):
            if spot[0] not in range(rows) or spot[1] not in range(columns) or spots.index(spot) != place:
                return ("NoFrame", place)
        self.frame, self.bound, self.standing = (rows, columns, spots), int(bound), REST
        self.read = [[] for spot in spots]
        return "ok"

    def words_of(self, numbers):
        """How each key is seen, None for a reading that can't be."""
        reading = tuple(map(int, numbers.split(",")))
        alike = sets_of_readings(self.frame).get(reading)
        if alike is None:
            return None
        return [plain_word(self.frame, alike[0], alike, key) for key in range(len(self.frame[2]))]

    def last_told(self, key):
        """1 where a key was told down last, else 0."""
        changes = plain_told(self.read[key], self.bound)
        return 1 if changes and changes[-1][1] == "down" else 0

    def on_scan(self, numbers):
        words = self.words_of(numbers)
        if words is None:
            return ("NoReading",)
        events = []
        for key, word in enumerate(words):
            self.read[key].append({"up": 0, "sure": 1, "unsure": self.last_told(key)}[word])
            turn = len(self.read[key]) - 1
            events += [(word, key) for when, word in plain_told(self.read[key], self.bound) if when == turn]
        return self.goes([event for event in events if event[1] in range(self.bed[0])] + [("turn", 0)])

    def on_seen(self, numbers):
        words = self.words_of(numbers)
        if words is None:
            return ("NoReading",)
        return "".join({"up": "u", "sure": "s", "unsure": "?"}[word] for word in words)

    def on_keys(self):
        down = [str(key) for key in range(len(self.read)) if self.last_told(key)]
        return ",".join(down) if down else "."

    def on_down(self, key, word="down"):
        if int(key) not in range(self.bed[0]):
            return ("NoRow",)
        return self.goes([(word, int(key))])

    def on_up(self, key):
        return self.on_down(key, "up")

    def on_turn(self):
        return self.goes([("turn", 0)])

    def on_states(self):
        standings = [room[0] for room in plain_rooms(self.bed)]
        return str(max(plain_states(self.bed, standings)) + 1) if len(standings) <= 400 else ("TooMany", 400)

    def on_word(self, letters):
        ways = plain_ways(self.bed, letters)
        if len(ways) > 400:
            return ("TooMany", 400)
        return str(ways.get((REST, len(letters)), "never"))

    def goes(self, events):
        """What is sent in events from the standing, written."""
        answer = ""
        for event in events:
            sent, self.standing = plain_step(self.bed, self.standing, event)
            for letter, word in sent:
                answer += {"down": "+", "up": "-"}[word] + letter
        return answer or "."


class Chooser:
    """Numbers that come one behind the other, always the same ones from the same beginning."""

    def __init__(self, number):
        self.number = number

    def below(self, count):
        """The next number, from 0 to one less than a count."""
        self.number = (self.number * 1103515245 + 12345) % 2147483648
        return (self.number >> 8) % count

    def one_of(self, things):
        """The next choice of several things."""
        return things[self.below(len(things))]


def frame_row(frame, bound):
    """The row that tells a frame and a bound."""
    spots = ",".join(f"{row}.{column}" for row, column in frame[2])
    return f"frame {frame[0]} {frame[1]} {bound} {spots}"


def scan_row(word, frame, keys):
    """The row that tells what a set of keys reads."""
    return word + " " + ",".join(map(str, plain_reading(frame, keys)))


def rows_to_tell(beginning, count):
    """A row of rows of all kinds: most of them scans and keys of the frame and the bed told last."""
    chooser = Chooser(beginning)
    good = [text for text, bed in BEDS.items() if not isinstance(bed[0], str)]
    bad = [text for text in BEDS if text not in good]
    frame, rows, keys, count_of_keys = FRAMES[0], [], (), 1
    for number in range(count):
        kind = chooser.below(40)
        if kind < 16:
            # Mostly one key changes from scan to scan.
            key = chooser.below(len(frame[2]))
            keys = tuple(sorted(set(keys) ^ {key})) if kind < 12 else keys
            rows.append(scan_row("scan", frame, keys))
        elif kind < 26:
            # Now and then it is a key that the bed hasn't.
            rows.append(chooser.one_of(("down ", "up ")) + str(chooser.below(count_of_keys + (kind == 25))))
        elif kind < 29:
            rows.append("turn")
        elif kind < 31:
            rows.append("keys")
        elif kind < 33:
            chosen = [key for key in range(len(frame[2])) if chooser.below(2)]
            rows.append(scan_row("seen", frame, tuple(chosen)))
        elif kind == 33:
            numbers = ",".join(str(chooser.below(9)) for row in range(1 + chooser.below(3)))
            rows.append(chooser.one_of(("scan ", "seen ")) + numbers)
        elif kind == 34:
            frame, keys = chooser.one_of(FRAMES), ()
            rows.append(frame_row(frame, chooser.below(4)))
        elif kind == 35:
            text = chooser.one_of(good)
            count_of_keys = BEDS[text][0]
            rows.append("bed\n" + text)
        elif kind == 36:
            rows.append("bed\n" + chooser.one_of(bad))
        elif kind == 37:
            rows.append(chooser.one_of(NO_FRAMES))
        elif kind == 38:
            rows.append(chooser.one_of(NO_ROWS))
        else:
            rows.append(chooser.one_of(("states", "word a", "word ab", "word ba", "word cab", "word q", "word dd")))
    return rows
