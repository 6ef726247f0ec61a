"""The desk and its rows [30]."""

import unittest

from chordbed.desk import Desk
from chordbed.errors import NoBed, NoChord, NoFrame, NoReading, NoRow, NoText, TooMany
from chordbed.texts import shown_bed
from tests.plain_desk import BEDS, FRAMES, NO_FRAMES, NO_ROWS, PlainDesk, frame_row, rows_to_tell, scan_row
from tests.plain_keying import TYPING_400, TYPING_401
from tests.plain_machine import JUST_400, JUST_401
from tests.refusals import answer_of, told_of

# One row of wires, so that each key is sure; a bound of 2; a chord, a tap and a layer, with a WAIT of 3.
WIDE = "frame 1 5 2 0.0,0.1,0.2,0.3,0.4"
RICH = "bed\nkeys 4 wait 3\nlayer a b c>1 ~1\nlayer x _ _ y\nchord 0+1 d"
SQUARE = "frame 2 2 0 0.0,0.1,1.0,1.1"
THREE = "bed\nkeys 3 wait 1\nlayer a b c"


def told(rows):
    """A desk that was told rows."""
    desk = Desk()
    for row in rows:
        desk.say(row)
    return desk


def answers(desk, rows):
    """What a desk answers to rows, or how it refuses them."""
    return [answer_of(desk.say, row) for row in rows]


class DeskTest(unittest.TestCase):

    def says(self, desk, *rows_and_answers):
        """A desk answers each row as told behind it."""
        for row, answer in zip(rows_and_answers[::2], rows_and_answers[1::2]):
            said = desk.say(row)
            self.assertIs(type(said), str)
            self.assertEqual(said, answer, row)

    def refuses(self, desk, row, *refusal):
        """A desk refuses a row with this class and these fields."""
        self.assertEqual(answer_of(desk.say, row), refusal, row)


class AtFirst(DeskTest):

    def test_the_frame_of_one_key(self):
        self.says(Desk(), "seen 0", "u", "seen 1", "s")
        for row in ("seen 2", "seen 0,0", "seen 1,1", "scan 2", "scan 0,0"):
            self.refuses(Desk(), row, NoReading)

    def test_no_key_is_told_down_and_the_bed_is_at_rest(self):
        self.says(Desk(), "keys", ".", "up 0", ".", "turn", ".", "scan 0", ".", "keys", ".")

    def test_the_bound_nought(self):
        self.says(Desk(), "scan 1", "+a", "scan 0", "-a", "scan 1", "+a", "scan 1", ".", "scan 0", "-a", "keys", ".")

    def test_the_bed_of_one_letter(self):
        self.says(Desk(), "down 0", "+a", "down 0", ".", "turn", ".", "up 0", "-a", "up 0", ".")
        self.says(Desk(), "states", "2", "word a", "2", "word aaa", "6", "word b", "never", "word ab", "never")
        self.refuses(Desk(), "down 1", NoRow)
        self.refuses(Desk(), "up 1", NoRow)

    def test_two_desks_are_their_own(self):
        one, other = Desk(), Desk()
        self.says(one, "scan 1", "+a", SQUARE, "ok", THREE, "ok", "down 2", "+c")
        self.says(other, "keys", ".", "seen 1", "s", "down 0", "+a", "states", "2")
        self.refuses(other, "down 2", NoRow)


class Frame(DeskTest):

    def test_rows_columns_and_spots(self):
        desk = told([SQUARE])
        self.says(desk, "seen 1,2", "suus", "seen 3,3", "????", "seen 0,0", "uuuu", "seen 3,0", "ssuu")
        desk = told(["frame 3 1 0 2.0,0.0"])
        self.says(desk, "seen 0,0,1", "su", "seen 1,0,1", "ss")
        self.refuses(desk, "seen 0,1,0", NoReading)
        self.refuses(desk, "seen 1,0", NoReading)

    def test_the_bound(self):
        self.says(told(["frame 1 1 2 0.0"]), "scan 1", "+a", "scan 0", ".", "scan 0", "-a", "scan 1", ".", "keys", ".")
        self.says(told(["frame 1 1 1 0.0"]), "scan 1", "+a", "scan 0", "-a")
        desk = told(["frame 1 1 99 0.0", "scan 1"])
        for turn in range(98):
            self.says(desk, "scan 0", ".")
        self.says(desk, "keys", "0", "scan 0", "-a", "keys", ".")

    def test_each_number_of_wires_and_spots(self):
        for rows in range(1, 7):
            for columns in range(1, 7):
                spots = [f"{row}.{column}" for row in range(rows) for column in range(columns)][:12]
                desk = Desk()
                self.says(desk, f"frame {rows} {columns} 0 " + ",".join(spots), "ok")
                self.says(desk, "seen " + ",".join(["0"] * rows), "u" * len(spots))

    def test_the_greatest_reading(self):
        desk = told(["frame 1 6 0 0.0,0.1,0.2,0.3,0.4,0.5"])
        self.says(desk, "seen 63", "ssssss", "scan 63", "+a", "keys", "0,1,2,3,4,5")
        self.refuses(desk, "seen 64", NoReading)
        self.refuses(desk, "seen 99", NoReading)

    def test_the_teller_begins_anew_and_the_bed_is_at_rest(self):
        desk = told([THREE, "frame 1 3 3 0.0,0.1,0.2", "scan 3", "down 2"])
        self.says(desk, "keys", "0,1", "frame 1 3 3 0.0,0.1,0.2", "ok", "keys", ".")
        # No letter is down, no turn of an earlier change counts, and the bed is the same.
        self.says(desk, "up 2", ".", "up 0", ".", "scan 1", "+a", "scan 3", "+b", "scan 7", "+c", "keys", "0,1,2")

    def test_a_key_that_waits_is_up_with_a_new_frame(self):
        desk = told([RICH, "down 2"])
        self.says(desk, "frame 1 1 0 0.0", "ok", "up 2", ".", "turn", ".", "turn", ".", "turn", ".", "down 0", ".")
        desk = told([RICH, "down 3", "up 3"])
        # A layer for the next key is gone too: 0 waits for its chord as on layer 0.
        self.says(desk, WIDE, "ok", "down 0", ".", "up 0", "+a-a")

    def test_the_same_frame_told_amid_a_bounce(self):
        desk = told([WIDE, "scan 1", "scan 0"])
        self.says(desk, "keys", "0", WIDE, "ok", "scan 1", "+a", "scan 0", ".", "scan 0", "-a")

    def test_no_frame(self):
        for row, place in (
            ("frame 0 1 0 0.0", None), ("frame 7 1 0 0.0", None), ("frame 1 0 0 0.0", None), ("frame 1 7 0 0.0", None),
            ("frame 99 99 99 99.99", None), ("frame 1 1 0 0.1", 0), ("frame 1 1 0 1.0", 0), ("frame 1 1 0 0.0,0.0", 1),
            ("frame 2 2 0 0.0,1.1,2.0,0.0", 2), ("frame 2 2 0 0.0,1.1,0.0,2.0", 2), ("frame 7 1 0 9.9", None),
            ("frame 3 6 0 " + ",".join(f"{spot // 6}.{spot % 6}" for spot in range(13)), None),
            ("frame 3 6 0 " + ",".join(["0.0"] * 13), None),
        ):
            self.refuses(Desk(), row, NoFrame, place)
        self.says(Desk(), "frame 3 6 0 " + ",".join(f"{spot // 6}.{spot % 6}" for spot in range(12)), "ok")


class Bed(DeskTest):

    def test_a_bed_is_told(self):
        desk = Desk()
        self.says(desk, THREE, "ok", "down 2", "+c", "down 1", "+b", "up 2", "-c", "up 1", "-b")
        self.refuses(desk, "down 3", NoRow)

    def test_at_rest_and_the_teller_goes_on(self):
        desk = told([THREE, "frame 1 3 2 0.0,0.1,0.2", "scan 5"])
        self.says(desk, "keys", "0,2", "bed\nkeys 3 wait 1\nlayer x y z", "ok", "keys", "0,2")
        # The change of 0 is too new in the first turn behind it, though a bed was told; and the bed has no key down.
        self.says(desk, "scan 4", ".", "keys", "0,2", "scan 4", ".", "keys", "2", "scan 6", "+y", "keys", "1,2")
        self.says(desk, "scan 2", ".", "keys", "1", "scan 2", ".", "scan 0", "-y", "keys", ".")

    def test_a_bed_told_with_keys_down(self):
        desk = told([RICH, "down 3", "up 3", "down 2"])
        self.says(desk, RICH, "ok", "up 2", ".", "down 0", ".", "down 1", "+d", "up 0", "-d")

    def test_every_bed_of_these_tests(self):
        for text, bed in BEDS.items():
            if isinstance(bed[0], int):
                self.says(Desk(), "bed\n" + text, "ok")
                self.says(Desk(), "bed\n" + shown_bed(bed), "ok")

    def test_no_text_no_bed_no_chord(self):
        for text, refusal in (
            ("", (NoText, 0)), (" ", (NoText, 0)), ("keys 1 wait 1\nlayer a\n", (NoText, 2)), ("\n", (NoText, 0)),
            ("keys 1 wait 1\nlayers a", (NoText, 1)), ("keys 01 wait 1\nlayer a", (NoText, 0)),
            ("bed\nkeys 1 wait 1\nlayer a", (NoText, 0)), ("\nkeys 1 wait 1\nlayer a", (NoText, 0)),
            ("keys 9 wait 1\nlayer aa", (NoText, 1)), ("keys 9 wait 1\nlayer a", (NoBed, None, None)),
            ("keys 1 wait 0\nlayer a", (NoBed, None, None)), ("keys 1 wait 1", (NoBed, None, None)),
            ("keys 1 wait 1\nlayer a b", (NoBed, 0, None)), ("keys 2 wait 1\nlayer a _", (NoBed, 0, 1)),
            ("keys 2 wait 1\nlayer a b\nlayer _ >2", (NoBed, 1, 1)),
            ("keys 2 wait 1\nlayer a b\nchord 0+1 c\nchord 0+2 c", (NoChord, 1)),
            ("keys 2 wait 1\nlayer a .\nchord 0+1 c", (NoChord, 0)),
        ):
            self.refuses(Desk(), "bed\n" + text, *refusal)

    def test_without_a_line_end_it_is_no_row(self):
        for row in ("bed", "bed ", "bed keys 1 wait 1", "bed keys 1 wait 1\nlayer a", "bed \nkeys 1 wait 1\nlayer a",
                    " bed\nkeys 1 wait 1\nlayer a", "beds\nkeys 1 wait 1\nlayer a", "bed\tkeys 1 wait 1\nlayer a",
                    "keys 1 wait 1\nlayer a", "\nbed\nkeys 1 wait 1\nlayer a", "Bed\nkeys 1 wait 1\nlayer a"):
            self.refuses(Desk(), row, NoRow)


class Scan(DeskTest):

    def test_keys_in_the_order_told_then_a_turn(self):
        desk = told([THREE, "frame 1 3 0 0.2,0.1,0.0"])
        # The keys by their numbers, not by their wires.
        self.says(desk, "scan 7", "+a+b+c", "scan 2", "-a-c", "scan 5", "+a-b+c", "scan 0", "-a-c")

    def test_the_turn_comes_behind_the_keys(self):
        # WAIT 1: what waits is decided in the scan in which it went down.
        desk = told(["frame 1 2 0 0.0,0.1", "bed\nkeys 2 wait 1\nlayer a>1 b\nlayer . c"])
        self.says(desk, "scan 1", ".", "scan 3", "+c", "scan 0", "-c")
        desk = told(["frame 1 2 0 0.0,0.1", "bed\nkeys 2 wait 1\nlayer a b\nchord 0+1 c"])
        self.says(desk, "scan 1", "+a", "scan 3", "+b", "scan 0", "-a-b", "scan 3", "+c", "scan 2", "-c", "scan 0", ".")

    def test_a_tap_of_scans(self):
        desk = told(["frame 1 1 0 0.0", "bed\nkeys 1 wait 2\nlayer a>1\nlayer b"])
        self.says(desk, "scan 1", ".", "scan 0", "+a-a", "scan 1", ".", "scan 1", ".", "scan 0", ".")
        # The first of the two turns came with the scan, the second by itself.
        self.says(desk, "scan 1", ".", "turn", ".", "scan 0", ".")

    def test_a_turn_goes_by_with_each_scan(self):
        desk = told([RICH, WIDE, "scan 4"])
        self.says(desk, "scan 4", ".", "turn", ".", "down 0", "+x", "up 0", "-x", "scan 4", ".", "keys", "2")

    def test_an_unsure_key_stays_as_it_was_told(self):
        desk = told([SQUARE, "bed\nkeys 4 wait 1\nlayer a b c d"])
        self.says(desk, "scan 3,3", ".", "keys", ".", "scan 3,0", "+a+b", "scan 3,3", ".", "keys", "0,1")
        self.says(desk, "scan 1,2", "-b+d", "scan 3,3", ".", "keys", "0,3", "scan 0,0", "-a-d", "keys", ".")

    def test_keys_at_and_beyond_the_beds_number(self):
        desk = told(["frame 1 4 0 0.0,0.1,0.2,0.3", "bed\nkeys 2 wait 1\nlayer a b"])
        self.says(desk, "scan 15", "+a+b", "keys", "0,1,2,3", "scan 3", ".", "keys", "0,1", "scan 4", "-a-b")
        self.says(desk, "keys", "2", "scan 8", ".", "keys", "3", "scan 6", "+b", "keys", "1,2")
        # A bed with more keys is told of them only when they change.
        self.says(desk, THREE, "ok", "scan 6", ".", "scan 4", ".", "scan 0", ".", "scan 4", "+c", "keys", "2")

    def test_a_turn_goes_by_though_no_key_is_the_beds(self):
        desk = told(["frame 1 3 0 0.0,0.1,0.2", "bed\nkeys 1 wait 2\nlayer a>1\nlayer b", "down 0"])
        self.says(desk, "scan 4", ".", "scan 0", ".", "up 0", ".")

    def test_a_bed_with_more_keys_than_the_frame(self):
        desk = told([THREE])
        self.says(desk, "scan 1", "+a", "down 2", "+c", "scan 0", "-a", "keys", ".", "up 2", "-c")

    def test_keys_told_by_rows_and_by_scans(self):
        # A row's down is the bed's alone: the teller knows nothing of it, and a scan's down of it sends nothing.
        desk = Desk()
        self.says(desk, "down 0", "+a", "keys", ".", "scan 1", ".", "keys", "0", "up 0", "-a", "keys", "0")
        self.says(desk, "scan 1", ".", "scan 0", ".", "keys", ".")

    def test_no_reading(self):
        desk = told([SQUARE])
        for row in ("scan 0", "scan 0,0,0", "scan 4,0", "scan 0,99", "scan 1,3", "scan 3,1", "scan 2,3"):
            self.refuses(desk, row, NoReading)
            self.refuses(desk, "seen" + row[4:], NoReading)

    def test_a_refused_scan_is_no_turn(self):
        desk = told(["frame 1 1 2 0.0", "bed\nkeys 1 wait 2\nlayer a>1\nlayer b", "scan 1"])
        for number in range(5):
            self.refuses(desk, "scan 2", NoReading)
        # Neither for the bounce nor for the key that waits.
        self.says(desk, "scan 0", ".", "keys", "0", "scan 0", ".", "keys", ".")


class KeysAndSeen(DeskTest):

    def test_keys(self):
        desk = told(["frame 2 6 0 " + ",".join(f"{spot // 6}.{spot % 6}" for spot in range(12))])
        self.says(desk, "keys", ".", "scan 63,0", "+a", "keys", "0,1,2,3,4,5", "scan 0,63", "-a")
        self.says(desk, "keys", "6,7,8,9,10,11", "scan 0,32", ".", "keys", "11")

    def test_seen_is_no_turn(self):
        desk = told(["frame 1 1 3 0.0", "bed\nkeys 1 wait 1\nlayer a>1\nlayer b", "down 0"])
        for number in range(5):
            self.says(desk, "seen 1", "s", "seen 0", "u", "keys", ".")
        self.says(desk, "up 0", "+a-a")
        desk = told(["frame 1 1 3 0.0", "scan 1"])
        for number in range(5):
            self.says(desk, "seen 0", "u")
        self.says(desk, "scan 0", ".", "scan 0", ".", "scan 0", "-a")

    def test_each_sign(self):
        desk = told(["frame 2 3 0 0.0,0.1,1.0,1.1,0.2"])
        self.says(desk, "seen 3,3", "????u", "seen 7,7", "????s", "seen 4,3", "uusss", "seen 4,0", "uuuus")


class Events(DeskTest):

    def test_downs_and_ups(self):
        desk = told([THREE])
        self.says(desk, "down 0", "+a", "down 1", "+b", "down 2", "+c", "up 1", "-b", "down 1", "+b", "up 0", "-a")

    def test_a_turn(self):
        desk = told(["bed\nkeys 2 wait 2\nlayer a b\nchord 0+1 c"])
        self.says(desk, "turn", ".", "down 0", ".", "turn", ".", "turn", "+a", "turn", ".", "up 0", "-a")

    def test_several_are_written_in_their_order_without_blanks(self):
        desk = told(["bed\nkeys 3 wait 4\nlayer a b c\nchord 0+1+2 d"])
        self.says(desk, "down 1", ".", "down 0", ".", "up 1", "+b+a-b", "up 0", "-a")
        self.says(desk, "down 1", ".", "down 0", ".", "down 2", "+d", "up 0", ".", "up 1", "-d", "up 2", ".")

    def test_each_key_that_the_bed_has(self):
        for count in range(1, 6):
            desk = told([f"bed\nkeys {count} wait 1\nlayer " + " ".join("abcde"[:count])])
            for key in range(count):
                self.says(desk, f"down {key}", "+" + "abcde"[key], f"up {key}", "-" + "abcde"[key])
            for key in (count, count + 1, 12, 99):
                self.refuses(desk, f"down {key}", NoRow)
                self.refuses(desk, f"up {key}", NoRow)

    def test_a_key_of_the_frame_that_the_bed_has_not(self):
        self.refuses(told([WIDE]), "down 1", NoRow)


class States(DeskTest):

    def test_how_many(self):
        self.says(told(["bed\nkeys 2 wait 1\nlayer . a"]), "states", "2")
        self.says(told(["bed\nkeys 1 wait 1\nlayer ."]), "states", "1")
        # At rest, two turns of waiting, held.
        self.says(told(["bed\nkeys 1 wait 2\nlayer a>1\nlayer b"]), "states", "4")
        self.says(told([THREE]), "states", "8")

    def test_they_are_the_beds_whatever_is_down(self):
        desk = told([THREE, "down 0"])
        self.says(desk, "states", "8", "down 1", "+b", "states", "8", "up 0", "-a")

    def test_four_hundred_rooms_and_more(self):
        for bed in JUST_400:
            desk = told(["bed\n" + shown_bed(bed)])
            number = desk.say("states")
            self.assertEqual(number, str(int(number)))
            self.assertLessEqual(int(number), 400)
        for bed in JUST_401:
            self.refuses(told(["bed\n" + shown_bed(bed)]), "states", TooMany, 400)


class Word(DeskTest):

    def test_how_many_events(self):
        desk = told(["bed\nkeys 2 wait 1\nlayer >1 a\nlayer _ b"])
        self.says(desk, "word a", "2", "word b", "4", "word bb", "6", "word ab", "6", "word c", "never")

    def test_from_rest_whatever_is_down(self):
        desk = told(["bed\nkeys 2 wait 1\nlayer >1 a\nlayer _ b", "down 0"])
        self.says(desk, "word a", "2", "word b", "4", "down 1", "+b", "word b", "4", "up 1", "-b")

    def test_four_hundred_rooms_and_more(self):
        for bed, text, length in TYPING_400:
            desk = told(["bed\n" + shown_bed(bed)])
            self.says(desk, "word " + text, "never" if length is None else str(length))
        for bed, text, length in TYPING_401:
            self.refuses(told(["bed\n" + shown_bed(bed)]), "word " + text, TooMany, 400)


class NoRows(DeskTest):

    def test_rows_that_are_none(self):
        for beginning in ([], [SQUARE, THREE, "scan 1,0", "down 1"]):
            desk = told(beginning)
            for row in NO_ROWS:
                self.refuses(desk, row, NoRow)

    def test_the_number_of_the_words(self):
        rows = ("frame 1 1 0 0.0", "scan 0", "keys", "seen 0", "down 0", "up 0", "turn", "states", "word a")
        for row in rows:
            self.assertIsInstance(Desk().say(row), str)
            words = row.split(" ")
            for count in range(1, len(words)):
                self.refuses(Desk(), " ".join(words[:count]), NoRow)
            for more in ("0", "a", "", "0.0", "turn"):
                self.refuses(Desk(), row + " " + more, NoRow)

    def test_blanks(self):
        for row in ("frame 1 1 0 0.0", "scan 0", "keys", "seen 0", "down 0", "up 0", "turn", "states", "word a"):
            self.refuses(Desk(), " " + row, NoRow)
            self.refuses(Desk(), row + " ", NoRow)
            for other in ("  ", "\t", "\n", " \n", ""):
                if " " in row:
                    self.refuses(Desk(), row.replace(" ", other), NoRow)
                    self.refuses(Desk(), row.replace(" ", other, 1), NoRow)
            for other in ("\t", "\n", "\n0"):
                self.refuses(Desk(), row + other, NoRow)
                self.refuses(Desk(), other + row, NoRow)

    def test_the_first_word(self):
        for row in ("Frame 1 1 0 0.0", "scans 0", "key", "see 0", "Down 0", "UP 0", "turns", "state", "words a", "say",
                    "0", "a", "help", "ok", "chord 0", "layer a", "wait 1", "none", "frames 1 1 0 0.0", "reading 0"):
            self.refuses(Desk(), row, NoRow)

    def test_the_writing_of_numbers(self):
        for number in ("00", "01", "001", "100", "000", "+1", "-1", "-0", "1.0", "0x1", "a", "1a", "a1", "", "_", "1_0",
                       "?", ".", "1e1", "~", "1;0", "0 "):
            for row in (f"down {number}", f"up {number}", f"scan {number}", f"seen {number}", f"scan 0,{number}",
                        f"seen {number},0", f"frame {number} 1 0 0.0", f"frame 1 {number} 0 0.0",
                        f"frame 1 1 {number} 0.0", f"frame 1 1 0 {number}.0", f"frame 1 1 0 0.{number}",
                        f"frame 1 1 0 0.0,{number}.0", f"frame 2 1 0 1.{number},0.0"):
                self.refuses(Desk(), row, NoRow)

    def test_the_writing_of_spots_and_readings(self):
        for spots in ("0", "0.", ".0", ".", ",", "0.0,", ",0.0", "0.0,,0.0", "0.0.0", "0,0", "0.0;0.0", "0:0", "0..0",
                      "0.0,0", "(0.0)", "0.0, 0.1", "0.0 0.1"):
            self.refuses(Desk(), "frame 1 1 0 " + spots, NoRow)
        for numbers in (",", "0,", ",0", "0,,0", "0.0", "0;0", "0, 0", "(0)", "0,0,", "[0]"):
            self.refuses(Desk(), "scan " + numbers, NoRow)
            self.refuses(Desk(), "seen " + numbers, NoRow)

    def test_the_writing_of_letters(self):
        for letters in ("", "A", "aB", "a1", "1", "a-b", "a_b", "a.b", "`", "{", "a\n", "\n", "a\nb", "a\tb", "~"):
            self.refuses(Desk(), "word " + letters, NoRow)
        for sign in "abcdefghijklmnopqrstuvwxyz":
            self.assertEqual(Desk().say("word " + sign), "2" if sign == "a" else "never")

    def test_no_row_comes_ahead_of_what_the_stages_refuse(self):
        for row in ("frame 9 9 0 0", "frame 9 9 0 9.9,", "frame 9 9 100 0.0", "frame 1 1 0 0.0,0.0,x", "scan 99,x",
                    "seen 4,05", "frame 0 0 0 00.0"):
            self.refuses(Desk(), row, NoRow)


class WhatIsRefusedChangesNothing(DeskTest):

    # Each desk amid something: a bounce, a tap and a chord that wait, a once, keys down of both kinds.
    BEGINNINGS = (
        (),
        ("scan 1",),
        (WIDE, RICH, "scan 1", "scan 0"),
        (WIDE, RICH, "scan 16", "scan 20"),
        (WIDE, RICH, "down 3", "up 3"),
        (WIDE, RICH, "scan 4", "scan 4", "scan 4", "down 0"),
        (SQUARE, THREE, "scan 3,0", "scan 3,3", "down 2"),
        (SQUARE, RICH, "scan 1,0", "down 1", "up 0"),
    )
    BEHIND = (
        "keys", "turn", "scan 0", "scan 0,0", "keys", "down 0", "down 1", "scan 1", "scan 2,0", "turn", "up 2", "keys",
        "down 3", "up 3", "down 0", "turn", "turn", "turn", "scan 3", "scan 0", "up 0", "up 1",
    )
    ASKED = ("states", "word ab", "word c", "seen 1", "seen 1,0", "keys")

    def rows_to_refuse(self):
        """Rows that each desk refuses, of each kind."""
        beds = ["bed\n" + text for text, bed in BEDS.items() if isinstance(bed[0], str)]
        readings = ["scan 64", "seen 64", "scan 0,0,0", "scan 4,4", "scan 99,0"]
        return list(NO_ROWS) + list(NO_FRAMES) + beds + readings + ["down 9", "up 5", "down 99"]

    def test_as_if_it_was_not_told(self):
        for beginning in self.BEGINNINGS:
            expected = answers(told(beginning), self.BEHIND)
            for row in self.rows_to_refuse():
                desk = told(beginning)
                self.assertIsInstance(answer_of(desk.say, row), tuple, row)
                self.assertEqual(answers(desk, self.BEHIND), expected, (beginning, row))

    def test_many_at_once(self):
        for beginning in self.BEGINNINGS:
            desk = told(beginning)
            for row in self.rows_to_refuse() * 2:
                self.assertIsInstance(answer_of(desk.say, row), tuple, row)
            rows = self.ASKED + self.BEHIND + self.ASKED
            self.assertEqual(answers(desk, rows), answers(told(beginning), rows), beginning)

    def test_too_many_rooms(self):
        bed = JUST_401[0]
        beginning = ["bed\n" + shown_bed(bed), "down 3", "scan 1"]
        desk = told(beginning)
        for row in ("states", "word " + "a" * 9, "states"):
            self.refuses(desk, row, TooMany, 400)
        self.assertEqual(answers(desk, self.BEHIND), answers(told(beginning), self.BEHIND))

    def test_what_only_asks_changes_nothing(self):
        for beginning in self.BEGINNINGS:
            desk = told(beginning)
            for row in ("keys", "states", "word a", "word abc", "word zz", "seen 0", "seen 0,0", "seen 1"):
                answer_of(desk.say, row)
            self.assertEqual(answers(desk, self.BEHIND), answers(told(beginning), self.BEHIND), beginning)


class BesideAPlainDesk(DeskTest):

    def test_rows_of_all_kinds(self):
        kinds = {}
        for beginning in range(150):
            desk, plain = Desk(), PlainDesk()
            rows = rows_to_tell(beginning * 7919 + 1, 150)
            for number, row in enumerate(rows):
                expected = plain.answer(row)
                try:
                    answer = desk.say(row)
                except ValueError as error:
                    refusal = told_of(error)
                    answer = (refusal[0].__name__,) + refusal[1:]
                self.assertEqual(answer, expected, rows[:number + 1])
                kind = (row.split("\n")[0].split(" ")[0], expected if isinstance(expected, tuple) else "told")
                kinds[kind] = kinds.get(kind, 0) + 1
        for word in ("frame", "bed", "scan", "keys", "seen", "down", "up", "turn", "states", "word"):
            self.assertGreater(kinds[(word, "told")], 30, word)
        for refusal in (("NoFrame", None), ("NoFrame", 2), ("NoText", 1), ("NoBed", 1, 1), ("NoChord", 1), ("NoRow",),
                        ("NoReading",)):
            self.assertGreater(sum(count for kind, count in kinds.items() if kind[1] == refusal), 10, refusal)

    def test_every_frame_and_bed_with_each_set_of_keys(self):
        for frame in FRAMES[:3]:
            for text, bed in BEDS.items():
                if isinstance(bed[0], str):
                    continue
                desk, plain = Desk(), PlainDesk()
                sets = [tuple(key for key in range(len(frame[2])) if number >> key & 1) for number in range(16)]
                rows = [frame_row(frame, 1), "bed\n" + text, "states", "word a", "word bc"]
                for keys in sets + sets[::-3]:
                    if all(key < len(frame[2]) for key in keys):
                        rows += [scan_row("seen", frame, keys), scan_row("scan", frame, keys), "keys"]
                for row in rows:
                    self.assertEqual(answer_of(desk.say, row), plain.answer(row), row)


if __name__ == "__main__":
    unittest.main()
