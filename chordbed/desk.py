"""The desk: rows told one by one, from scans to letters."""

from chordbed.errors import NoRow
from chordbed.frames import frame_of
from chordbed.keying import typed
from chordbed.lines import read_row, shown_keys, shown_length, shown_seen, shown_sent
from chordbed.machines import machine
from chordbed.plain import AT_REST, step
from chordbed.readings import seen
from chordbed.scans import Teller
from chordbed.texts import read_bed

FIRST_BED = "keys 1 wait 1\nlayer a"
TURN = ("turn", 0)
DONE = "ok"


class Desk:
    """Keeps a teller, with its frame, and a bed and its standing, and answers rows."""

    def __init__(self):
        self.teller = Teller(frame_of(1, 1, [(0, 0)]), 0)
        self.bed = read_bed(FIRST_BED)
        self.standing = AT_REST

    def say(self, row):
        """The answer to a row; refused with NoRow, then as the stages refuse."""
        line = read_row(row)
        word = line[0]
        what = line[1]
        if word == "frame":
            return self.take_frame(what)
        if word == "bed":
            return self.take_bed(what)
        if word == "scan":
            return self.take_scan(what)
        if word in ("down", "up"):
            return self.take_key(word, what)
        if word == "turn":
            return self.run_through([TURN])
        if word == "keys":
            return shown_keys(self.teller.down())
        if word == "seen":
            return shown_seen(seen(self.teller.frame, what))
        if word == "states":
            return str(len(machine(self.bed)[0]))
        return shown_length(typed(self.bed, what))

    def take_frame(self, what):
        """The teller begins anew with another frame and bound."""
        self.teller = Teller(frame_of(what[0], what[1], list(what[3])), what[2])
        self.standing = AT_REST
        return DONE

    def take_bed(self, text):
        """Another bed, at rest; the teller goes on."""
        self.bed = read_bed(text)
        self.standing = AT_REST
        return DONE

    def take_scan(self, reading):
        """The changes that the teller tells, then a turn."""
        changes = self.teller.scan(reading)
        return self.run_through([change for change in changes if change[1] < self.bed[0]] + [TURN])

    def take_key(self, word, key):
        """One key goes down or up; refused with NoRow."""
        if key >= self.bed[0]:
            raise NoRow(f"the bed has no key {key}")
        return self.run_through([(word, key)])

    def run_through(self, events):
        """What is sent in a row of events from the standing, which they change."""
        sent = []
        for event in events:
            answer = step(self.bed, self.standing, event)
            sent.extend(answer[0])
            self.standing = answer[1]
        return shown_sent(sent)
