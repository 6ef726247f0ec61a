"""The promise over the whole program [1] to [3], and the interface, from wires to letters through all stages."""

import copy
import inspect
import unittest
from itertools import product

from chordbed.beds import checked
from chordbed.bounces import told
from chordbed.desk import Desk
from chordbed.errors import BedError
from chordbed.frames import frame_of, reads
from chordbed.keying import typed, typing_rooms
from chordbed.machines import apart, machine, states
from chordbed.plain import layer_of, play, step
from chordbed.readings import pieces, seen, why
from chordbed.rests import rests, twofold
from chordbed.rooms import events_of, rooms
from chordbed.same import same
from chordbed.scans import Teller
from chordbed.texts import read_bed, shown_bed
from chordbed.words import checked_book, read_strokes, written
from tests.plain_bed import REST, chosen_beds
from tests.plain_desk import BEDS, Chooser, frame_row, scan_row
from tests.plain_search import sets_by_reading, small_frames
from tests.plain_words import chosen_books

GOOD_BEDS = {text: bed for text, bed in BEDS.items() if not isinstance(bed[0], str)}
RING = (2, 2, ((0, 0), (0, 1), (1, 0), (1, 1)))
LINE = (1, 5, ((0, 0), (0, 1), (0, 2), (0, 3), (0, 4)))
BOOK = (("ab", ((0, 1),)), ("cat", ((2,), (0,), (3, 11))), ("c", ((2,),)), ("at", ((0,), (3, 11))))


def signs_of(answer):
    """What a desk's answer tells as sent: a list of (LETTER, WORD)."""
    if answer == ".":
        return []
    return [(answer[place + 1], {"+": "down", "-": "up"}[answer[place]]) for place in range(0, len(answer), 2)]


def event_row(event):
    """The row that tells an event to a desk."""
    return "turn" if event[0] == "turn" else f"{event[0]} {event[1]}"


def desk_with(text, frame=None, bound=0):
    """A desk with a bed and a frame."""
    desk = Desk()
    desk.say("bed\n" + text)
    if frame is not None:
        desk.say(frame_row(frame, bound))
    return desk


def chosen_events(bed, chooser, count):
    """A row of events without chance."""
    return [chooser.one_of(events_of(bed)) for number in range(count)]


class Sureness(unittest.TestCase):

    def test_sure_just_where_a_key_must_be_down_else_two_sets_that_read_alike(self):
        for frame in small_frames():
            for reading, alike in sets_by_reading(frame).items():
                for key, word in enumerate(seen(frame, reading)):
                    self.assertEqual(word == "sure", all(key in keys for keys in alike))
                    if word == "unsure":
                        one, other = why(frame, reading, key)
                        self.assertEqual(reads(frame, one), reading)
                        self.assertEqual(reads(frame, other), reading)
                        self.assertEqual((key in one, key in other), (True, False))

    def test_through_the_desk_no_key_is_told_that_is_not_so(self):
        text = "keys 4 wait 1\nlayer a b c d"
        for beginning in range(40):
            chooser = Chooser(beginning * 31 + 5)
            desk = desk_with(text, RING, beginning % 3)
            keys = set()
            for turn in range(60):
                keys ^= {chooser.below(4)} if chooser.below(3) else set()
                for letter, word in signs_of(desk.say(scan_row("scan", RING, tuple(sorted(keys))))):
                    self.assertEqual("abcd".index(letter) in keys, word == "down")


class Bounces(unittest.TestCase):

    def changed_rows(self, bound, chooser, count):
        """Each of five keys' true changes, and readings that may be any for as many turns as the bound from each on."""
        changes, readings = [], []
        for key in range(5):
            turn, now, mine, row = chooser.below(4), 0, [], []
            while len(row) < count:
                while len(row) < min(turn, count):
                    row.append(now)
                if turn < count - bound:
                    now = 1 - now
                    mine.append((turn, now))
                    row += [chooser.below(2) for bounce in range(bound)] + [now]
                turn = turn + bound + 1 + chooser.below(3)
            changes.append(mine)
            readings.append(row[:count])
        return changes, readings

    def test_each_change_is_told_once_in_order_no_later_than_its_bounces_last(self):
        text = "keys 5 wait 1\nlayer a b c d e"
        for beginning in range(30):
            bound = beginning % 4
            changes, readings = self.changed_rows(bound, Chooser(beginning * 77 + 9), 40)
            desk = desk_with(text, LINE, bound)
            heard = {letter: [] for letter in "abcde"}
            for turn in range(40):
                keys = tuple(key for key in range(5) if readings[key][turn])
                for letter, word in signs_of(desk.say(scan_row("scan", LINE, keys))):
                    heard[letter].append((turn, word))
            for key, letter in enumerate("abcde"):
                self.assertEqual(heard[letter], told(readings[key], bound))
                words = [{1: "down", 0: "up"}[now] for turn, now in changes[key]]
                self.assertEqual([word for turn, word in heard[letter]], words)
                for (turn, now), (when, word) in zip(changes[key], heard[letter]):
                    self.assertIn(when, range(turn, turn + bound + 1))


class Letters(unittest.TestCase):

    def test_downs_and_ups_take_turns_and_none_is_down_where_no_key_is(self):
        for text, bed in GOOD_BEDS.items():
            for beginning in range(20):
                chooser = Chooser(beginning * 13 + 1)
                desk, down, keys = desk_with(text), set(), set()
                for event in chosen_events(bed, chooser, 120):
                    for letter, word in signs_of(desk.say(event_row(event))):
                        self.assertEqual(letter in down, word == "up")
                        down ^= {letter}
                    keys = keys | {event[1]} if event[0] == "down" else keys
                    keys = keys - {event[1]} if event[0] == "up" else keys
                    if not keys:
                        self.assertEqual(down, set())

    def test_scans_mean_what_the_plain_reading_of_their_changes_does(self):
        for text, bed in GOOD_BEDS.items():
            for frame, bound in product((RING, LINE), (0, 2)):
                chooser, keys, events, answers = Chooser(bound * 5 + bed[0]), set(), [], []
                desk = desk_with(text, frame, bound)
                teller = Teller(frame_of(frame[0], frame[1], list(frame[2])), bound)
                for turn in range(60):
                    keys ^= {chooser.below(len(frame[2]))}
                    down = tuple(sorted(keys))
                    events.append([event for event in teller.scan(reads(frame, down)) if event[1] < bed[0]])
                    answers.append(signs_of(desk.say(scan_row("scan", frame, down))))
                standing = REST
                for row, answer in zip(events, answers):
                    heard = []
                    for event in row + [("turn", 0)]:
                        sent, standing = step(bed, standing, event)
                        heard += sent
                    self.assertEqual(answer, heard)
                self.assertEqual(desk.say("keys"), ",".join(map(str, teller.down())) or ".")


class Machines(unittest.TestCase):

    def test_the_machine_the_plain_reading_and_the_desk_send_the_same(self):
        for text, bed in GOOD_BEDS.items():
            steps, sends = machine(bed)
            self.assertEqual(desk_with(text).say("states"), str(len(steps)))
            events = chosen_events(bed, Chooser(bed[0]), 200)
            all_sent = play(bed, events)[0]
            desk, state = desk_with(text), 0
            for event, sent in zip(events, all_sent):
                place = events_of(bed).index(event)
                self.assertEqual(list(sends[state][place]), sent)
                self.assertEqual(signs_of(desk.say(event_row(event))), sent)
                state = steps[state][place]

    def test_no_two_of_its_states_are_alike(self):
        for bed in GOOD_BEDS.values():
            steps, sends = machine(bed)
            events = events_of(bed)
            for one, other in list(product(range(len(steps)), repeat=2))[:150]:
                row = apart(bed, one, other)
                if one == other:
                    self.assertIsNone(row)
                    continue
                for event in row[:-1]:
                    one, other = steps[one][events.index(event)], steps[other][events.index(event)]
                place = events.index(row[-1])
                self.assertNotEqual(sends[one][place], sends[other][place])


class TwoBeds(unittest.TestCase):

    def test_a_row_at_which_two_desks_answer_unlike_or_none(self):
        for (text, one), (other_text, other) in product(GOOD_BEDS.items(), repeat=2):
            if one[0] != other[0]:
                continue
            word, found = same(one, other, 5000)
            self.assertEqual(word, "same" if one == other else "apart")
            if word == "same":
                self.assertIn((REST, REST), found)
                continue
            first, second = desk_with(text), desk_with(other_text)
            unlike = [first.say(event_row(event)) != second.say(event_row(event)) for event in found]
            self.assertEqual(unlike, [False] * (len(found) - 1) + [True])

    def test_a_bed_means_the_same_as_what_is_read_of_its_text(self):
        for bed in chosen_beds()[:18]:
            self.assertEqual(same(bed, read_bed(shown_bed(bed)), 5000)[0], "same")


class Words(unittest.TestCase):

    def test_no_two_rows_are_written_alike_or_two_are_told(self):
        for book in chosen_books() + [BOOK]:
            checked_book(book)
            pair = twofold(book)
            if pair is None:
                self.assertNotIn((), [rest for rest, price in rests(book)])
                for words in product([word for word, strokes in book], repeat=3):
                    self.assertEqual(read_strokes(book, written(book, list(words))), list(words))
            else:
                self.assertNotEqual(pair[0], pair[1])
                self.assertEqual(written(book, pair[0]), written(book, pair[1]))
                self.assertIn(((), len(written(book, pair[0]))), rests(book))

    def test_a_word_is_typed_at_the_desk(self):
        for text, bed in GOOD_BEDS.items():
            for letters in ("a", "b", "ab", "ba", "cab", "dad", "q"):
                row = typed(bed, letters, 5000)
                desk = desk_with(text)
                if row is None:
                    self.assertEqual(desk.say("word " + letters), "never")
                    continue
                if len(typing_rooms(bed, letters, 5000)) <= 400:
                    self.assertEqual(desk.say("word " + letters), str(len(row)))
                signs = [sign for event in row for sign in signs_of(desk.say(event_row(event)))]
                self.assertEqual([letter for letter, word in signs if word == "down"], list(letters))
                # The end is at rest: the same row does it again.
                again = [sign for event in row for sign in signs_of(desk.say(event_row(event)))]
                self.assertEqual(again, signs)


class HandedIn(unittest.TestCase):

    BED = GOOD_BEDS["keys 3 wait 2\nlayer a b c>1\nlayer c _ _\nchord 0+1 d"]
    STANDING = (((0, ("letter", "a")),), None, None)

    def calls(self):
        """Each function that takes or tells something, with things for it."""
        reading = reads(RING, (0, 3))
        return (
            (frame_of, (2, 2, [(0, 0), (1, 1)])), (reads, (RING, (0, 3))), (pieces, (RING, reading)),
            (seen, (RING, reading)), (why, (RING, reading, 0)), (told, ([0, 1, 0, 0, 1], 1)), (checked, (self.BED,)),
            (shown_bed, (self.BED,)), (read_bed, (shown_bed(self.BED),)), (layer_of, (self.STANDING,)),
            (step, (self.BED, self.STANDING, ("up", 0))), (play, (self.BED, [("down", 0), ("turn", 0), ("down", 1)])),
            (events_of, (self.BED,)), (rooms, (self.BED,)), (machine, (self.BED,)), (states, (self.BED,)),
            (apart, (self.BED, 0, 1)), (same, (self.BED, self.BED, 5000)), (checked_book, (BOOK,)),
            (written, (BOOK, ["cat", "c"])), (read_strokes, (BOOK, ((2,), (0,), (3, 11)))), (rests, (BOOK,)),
            (twofold, (BOOK,)), (typing_rooms, (self.BED, "ab")), (typed, (self.BED, "ab")),
        )

    def test_nothing_that_is_handed_in_is_changed(self):
        for ask, things in self.calls():
            before = copy.deepcopy(things)
            ask(*things)
            self.assertEqual(things, before, ask)

    def empty_lists(self, thing):
        """Empties each list within a thing, that the asker may do with as he likes."""
        if isinstance(thing, (list, tuple)):
            for part in thing:
                self.empty_lists(part)
        if isinstance(thing, list):
            thing.clear()

    def test_each_list_that_is_told_is_the_askers_own(self):
        for ask, things in self.calls():
            before = copy.deepcopy(things)
            expected = copy.deepcopy(ask(*things))
            answer = ask(*things)
            kept = ask(*things)
            self.empty_lists(answer)
            self.assertEqual(things, before, ask)
            self.assertEqual(kept, expected, ask)
            self.assertEqual(ask(*things), expected, ask)

    def test_a_list_that_was_told_is_not_what_was_handed_in(self):
        words = ["cat", "c"]
        strokes = written(BOOK, words)
        self.assertIsNot(read_strokes(BOOK, strokes), words)
        spots = [(0, 0), (0, 1)]
        frame = frame_of(1, 2, spots)
        spots.clear()
        self.assertEqual(frame, (1, 2, ((0, 0), (0, 1))))


class Interface(unittest.TestCase):

    def test_names_and_arguments(self):
        for ask, names in (
            (frame_of, "rows columns spots"), (reads, "frame keys"), (pieces, "frame reading"),
            (seen, "frame reading"), (why, "frame reading key"), (told, "readings bound"), (checked, "bed"),
            (read_bed, "text"), (shown_bed, "bed"), (layer_of, "standing"), (step, "bed standing event"),
            (play, "bed events"), (events_of, "bed"), (rooms, "bed most=400"), (machine, "bed most=400"),
            (states, "bed most=400"), (apart, "bed one other most=400"), (same, "one other most=400"),
            (checked_book, "book"), (written, "book words"), (read_strokes, "book strokes"), (rests, "book"),
            (twofold, "book"), (typing_rooms, "bed text most=400"), (typed, "bed text most=400"),
            (Teller, "frame bound"), (Teller.scan, "self reading"), (Teller.down, "self"), (Desk, ""),
            (Desk.say, "self row"),
        ):
            parameters = inspect.signature(ask).parameters.values()
            told_names = [
                one.name if one.default is inspect.Parameter.empty else f"{one.name}={one.default}"
                for one in parameters
            ]
            self.assertEqual(" ".join(told_names), names, ask)

    def test_every_refusal_is_a_bed_error_and_a_value_error(self):
        for row in ("", "frame 9 9 9 9.9", "scan 9", "bed\n", "bed\nkeys 9 wait 9",
                    "bed\nkeys 2 wait 1\nlayer a b\nchord 0+0 c"):
            with self.assertRaises(BedError) as caught:
                Desk().say(row)
            self.assertIsInstance(caught.exception, ValueError)


if __name__ == "__main__":
    unittest.main()
