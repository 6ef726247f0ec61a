"""Texts of beds [14]: what they are read as, what is refused, and how beds are written."""

import re
import unittest
from itertools import combinations, product

from chordbed.beds import checked
from chordbed.errors import BedError, NoBed, NoChord, NoText
from chordbed.texts import read_bed, shown_bed
from tests.refusals import refusal_of

NUMBER = r"(?:[0-9]|[1-9][0-9])"
HEAD = rf"keys {NUMBER} wait {NUMBER}"
MEANING = rf"(?:[a-z]|>{NUMBER}|[a-z]>{NUMBER}|~{NUMBER}|\.|_)"
LAYER = rf"layer(?: {MEANING})+"
CHORD = rf"chord {NUMBER}(?:\+{NUMBER})* [a-z]"

ALL = (
    5,
    (
        (("letter", "a"), ("letter", "b"), ("letter", "z"), ("tap", "d", 1), ("once", 2)),
        (("below",), ("none",), ("layer", 2), ("letter", "e"), ("tap", "a", 2)),
        (("once", 1), ("below",), ("below",), ("layer", 1), ("none",)),
    ),
    (((0, 1), "x"), ((0, 1, 2), "y")),
    4,
)
ALL_WRITTEN = (
    "keys 5 wait 4\n"
    "layer a b z d>1 ~2\n"
    "layer _ . >2 e a>2\n"
    "layer ~1 _ _ >1 .\n"
    "chord 0+1 x\n"
    "chord 0+1+2 y"
)


def first_fault(text):
    """The number of the first row that isn't written so or not in its place, None where there is none."""
    rows = text.split("\n")
    chords_began = False
    for place, row in enumerate(rows):
        chord = re.fullmatch(CHORD, row) is not None
        if place == 0:
            right = re.fullmatch(HEAD, row)
        else:
            right = chord or (re.fullmatch(LAYER, row) and not chords_began)
        if not right:
            return place
        chords_began = chords_began or chord
    return None


def many_beds():
    """Beds of all sizes with all meanings, made without chance."""
    beds = [ALL, (1, ((("letter", "a"),),), (), 1)]
    for number in range(300):
        keys, layers, wait = 1 + number % 5, 1 + number // 5 % 3, 1 + number // 15 % 4
        rows = []
        for layer in range(layers):
            rows.append(tuple(some_meaning(number + 7 * layer + 3 * key, layer, layers) for key in range(keys)))
        letters = [key for key in range(keys) if rows[0][key][0] == "letter"]
        sets = [one for size in (2, 3, 4, 5) for one in combinations(letters, size)]
        chords = tuple((one, "qrst"[place]) for place, one in enumerate(sets[:number % 5]))
        beds.append((keys, tuple(rows), chords, wait))
    return beds


def some_meaning(number, layer, layers):
    """One of the meanings that may stand there."""
    letter = "abcdefghijklmnopqrstuvwxyz"[number % 26]
    may = [("letter", letter), ("none",), ("letter", letter)]
    if layer > 0:
        may.append(("below",))
    for other in range(1, layers):
        may += [("layer", other), ("tap", letter, other), ("once", other)]
    return may[number % len(may)]


class Read(unittest.TestCase):

    def test_all_meanings(self):
        bed = read_bed(ALL_WRITTEN)
        self.assertEqual(bed, ALL)
        self.assertIs(type(bed), tuple)
        for part in (bed[1], bed[2], bed[1][0], bed[1][0][0], bed[2][0], bed[2][0][0]):
            self.assertIs(type(part), tuple)

    def test_the_least(self):
        self.assertEqual(read_bed("keys 1 wait 1\nlayer a"), (1, ((("letter", "a"),),), (), 1))
        self.assertEqual(read_bed("keys 1 wait 4\nlayer ."), (1, ((("none",),),), (), 4))

    def test_each_way_to_write_a_meaning(self):
        for word, meaning in (
            ("a", ("letter", "a")), ("z", ("letter", "z")), (">1", ("layer", 1)), (">2", ("layer", 2)),
            ("a>1", ("tap", "a", 1)), ("z>2", ("tap", "z", 2)), ("~1", ("once", 1)), ("~2", ("once", 2)),
            (".", ("none",)), ("_", ("below",)),
        ):
            text = f"keys 2 wait 3\nlayer a b\nlayer . {word}\nlayer _ _"
            self.assertEqual(read_bed(text)[1][1], (("none",), meaning))

    def test_chords(self):
        text = "keys 5 wait 2\nlayer a b c d e\nchord 0+1+2+3+4 x\nchord 3+4 y\nchord 0+4 x"
        chords = (((0, 1, 2, 3, 4), "x"), ((3, 4), "y"), ((0, 4), "x"))
        self.assertEqual(read_bed(text)[2], chords)


class NoTexts(unittest.TestCase):

    def refused(self, row, text):
        with self.assertRaises(NoText, msg=text) as caught:
            read_bed(text)
        self.assertEqual(caught.exception.row, row, text)
        self.assertIsInstance(caught.exception, BedError)

    def test_first_rows(self):
        for row in (
            "", " ", "keys", "keys 1", "keys 1 wait", "keys 1 wait 1 ", " keys 1 wait 1", "keys  1 wait 1",
            "keys 1  wait 1", "keys 1 wait  1", "keys 1 wait 1 1", "keys 1 wait 1 more", "wait 1 keys 1",
            "Keys 1 wait 1", "key 1 wait 1", "keys 1 waits 1", "keys\t1 wait 1", "keys 1\twait\t1", "keys a wait 1",
            "keys 1 wait a", "keys -1 wait 1", "keys +1 wait 1", "keys 01 wait 1", "keys 1 wait 01", "keys 00 wait 1",
            "keys 001 wait 1", "keys 100 wait 1", "keys 1 wait 123", "keys 1.0 wait 1", "keys 1 wait 1\t", "layer a",
            "chord 0+1 a", "keys 1_ wait 1", "keys _1 wait 1", "keys 1 wait", "keys wait 1",
        ):
            self.refused(0, row)
            self.refused(0, row + "\nlayer a")

    def test_layer_rows(self):
        for row in (
            "", " ", "layer", "layer ", "layer  a", "layer a ", " layer a", "layer a  b", "layer\ta", "layer a\tb",
            "Layer a", "layers a", "layer A", "layer ab", "layer a>", "layer >", "layer ~", "layer a~1", "layer ~a",
            "layer a>b", "layer >a", "layer 1", "layer >01", "layer >00", "layer ~01", "layer a>01", "layer >100",
            "layer ~123", "layer a>111", "layer ab>1", "layer A>1", "layer >>1", "layer a>>1", "layer ~~1",
            "layer >1>1", "layer a>1>1", "layer ..", "layer __", "layer ._", "layer .a", "layer a.", "layer >-1",
            "layer > 1", "layer ~ 1", "layer a >", "layer >1a", "layer ~1a", "layer a1", "layer ?", "layer a+b",
            "layer .>1", "layer _>1", "layer ~>1", "a", "keys 1 wait 1",
        ):
            self.refused(1, "keys 1 wait 1\n" + row)
            self.refused(2, "keys 1 wait 1\nlayer a\n" + row)
            self.refused(1, "keys 1 wait 1\n" + row + "\nlayer a")

    def test_chord_rows(self):
        for row in (
            "chord", "chord ", "chord 0+1", "chord 0+1 ", "chord  0+1 a", "chord 0+1  a", "chord 0+1 a ",
            " chord 0+1 a", "chord 0+1 A", "chord 0+1 ab", "chord 0+1 1", "chord 0+1 .", "chord 0+1 a b",
            "chord a", "chord a 0+1", "chord 0 1 a", "chord + a", "chord 0+ a", "chord +1 a", "chord 0++1 a",
            "chord 0 + 1 a", "chord 0,1 a", "chord 0-1 a", "chord 00+1 a", "chord 0+01 a", "chord 0+100 a",
            "chord 0+x a", "chord\t0+1 a", "chord 0+1\ta", "Chord 0+1 a", "chords 0+1 a", "chord -0+1 a",
            "chord 0+-1 a", "chord 0+1 >1", "chord 0+1 a>1", "chord _ a", "",
        ):
            self.refused(2, "keys 2 wait 1\nlayer a b\n" + row)
            self.refused(3, "keys 2 wait 1\nlayer a b\nchord 0+1 x\n" + row)

    def test_rows_not_in_their_place(self):
        self.refused(0, "layer a\nkeys 1 wait 1")
        self.refused(1, "keys 1 wait 1\nkeys 1 wait 1\nlayer a")
        self.refused(2, "keys 1 wait 1\nlayer a\nkeys 1 wait 1")
        self.refused(3, "keys 2 wait 1\nlayer a b\nchord 0+1 c\nlayer _ _")
        self.refused(2, "keys 2 wait 1\nchord 0+1 c\nlayer a b")
        self.refused(3, "keys 2 wait 1\nlayer a b\nchord 0+1 c\nkeys 2 wait 1")

    def test_line_ends_part_rows(self):
        # A line end at the end is followed by one more row, which is empty.
        self.refused(2, "keys 1 wait 1\nlayer a\n")
        self.refused(0, "\nkeys 1 wait 1\nlayer a")
        self.refused(1, "keys 1 wait 1\n\nlayer a")
        self.refused(0, "\n")
        self.refused(0, "keys 1 wait 1 layer a")

    def test_the_first_faulty_row_is_told(self):
        self.refused(1, "keys 2 wait 1\nlayer A\nlayer B\nchord C")
        self.refused(2, "keys 2 wait 1\nlayer a b\nlayer\nchord 0+1 C\nlayer")
        self.refused(3, "keys 2 wait 1\nlayer a b\nchord 0+1 c\nlayer a b\nlayer ?")

    def test_texts_ahead_of_beds(self):
        self.refused(1, "keys 0 wait 9\nlayer A")
        self.refused(2, "keys 1 wait 1\nlayer _\nlayer a>0 !")
        self.refused(3, "keys 1 wait 1\nlayer _\nchord 1+0 a\nchord 0+1 A")
        self.refused(7, "keys 1 wait 1" + "\nlayer a" * 6 + "\n?")


class NoBeds(unittest.TestCase):

    def refused(self, refusal, text):
        self.assertEqual(refusal_of(read_bed, text), refusal, text)

    def test_numbers(self):
        for head in ("keys 0 wait 1", "keys 6 wait 1", "keys 99 wait 1", "keys 10 wait 1", "keys 1 wait 0",
                     "keys 1 wait 5", "keys 1 wait 99"):
            self.refused((NoBed, None, None), head + "\nlayer a")

    def test_no_layer(self):
        self.refused((NoBed, None, None), "keys 1 wait 1")
        self.refused((NoBed, None, None), "keys 2 wait 1\nchord 0+1 a")
        self.refused((NoBed, None, None), "keys 2 wait 1\nchord 1+0 a\nchord 7 a")

    def test_too_many_layers_or_chords(self):
        self.refused((NoBed, None, None), "keys 1 wait 1" + "\nlayer a" * 4)
        self.refused((NoBed, None, None), "keys 2 wait 1\nlayer a b" + "\nchord 0+1 a" * 5)

    def test_not_a_meaning_for_each_key(self):
        self.refused((NoBed, 0, None), "keys 2 wait 1\nlayer a")
        self.refused((NoBed, 1, None), "keys 2 wait 1\nlayer a b\nlayer a b c")

    def test_layers_that_are_none(self):
        for word in (">0", ">1", ">9", ">99", "~0", "~1", "~10", "a>0", "a>1", "a>99", "_"):
            self.refused((NoBed, 0, 1), f"keys 2 wait 1\nlayer a {word}")
        for word in (">0", ">2", "~0", "~2", "a>0", "a>2"):
            self.refused((NoBed, 1, 0), f"keys 2 wait 1\nlayer a b\nlayer {word} b")

    def test_chords_that_are_none(self):
        for keys in ("0", "1", "5", "99", "1+0", "0+0", "1+1+0", "0+2", "0+10", "0+99", "2+3"):
            self.refused((NoChord, 0), f"keys 2 wait 1\nlayer a b\nchord {keys} x")
            self.refused((NoChord, 1), f"keys 2 wait 1\nlayer a b\nchord 0+1 x\nchord {keys} x")
        self.refused((NoChord, 0), "keys 2 wait 1\nlayer a .\nchord 0+1 x")
        self.refused((NoChord, 1), "keys 2 wait 1\nlayer a b\nchord 0+1 x\nchord 0+1 y")

    def test_beds_ahead_of_chords(self):
        self.refused((NoBed, 0, 1), "keys 2 wait 1\nlayer a _\nchord 1+0 a")


class AgainstThePatterns(unittest.TestCase):
    """The rows as patterns, of which re tells whether a row is written so."""

    def same_refusal(self, text):
        fault = first_fault(text)
        refusal = refusal_of(read_bed, text)
        if fault is not None:
            self.assertEqual(refusal, (NoText, fault), text)
        elif refusal is not None:
            self.assertIn(refusal[0], (NoBed, NoChord), text)
        else:
            # There is but one way to write a bed.
            self.assertEqual(shown_bed(read_bed(text)), text)

    def test_all_short_words_as_meanings(self):
        for length in range(5):
            for signs in product("azA>~._019+ ", repeat=length):
                self.same_refusal("keys 1 wait 1\nlayer " + "".join(signs))

    def test_all_short_words_as_numbers_and_keys(self):
        for length in range(5):
            for signs in product("0159+-_ a", repeat=length):
                word = "".join(signs)
                for text in (f"keys {word} wait 1", f"keys 1 wait {word}", f"keys 1 wait 1\nchord {word} a"):
                    self.same_refusal(text)

    def test_texts_with_one_sign_more_less_or_other(self):
        texts = (ALL_WRITTEN, "keys 2 wait 1\nlayer a b\nchord 0+1 c")
        for text in texts:
            for place in range(len(text) + 1):
                self.same_refusal(text[:place] + text[place + 1:])
                for sign in "az A0159>~._+\n\t":
                    self.same_refusal(text[:place] + sign + text[place:])
                    self.same_refusal(text[:place] + sign + text[place + 1:])

    def test_rows_in_all_orders(self):
        rows = ("keys 2 wait 1", "layer a b", "chord 0+1 c", "", "layer ?")
        for length in range(1, 6):
            for order in product(rows, repeat=length):
                self.same_refusal("\n".join(order))


class Shown(unittest.TestCase):

    def test_all_meanings(self):
        self.assertEqual(shown_bed(ALL), ALL_WRITTEN)
        self.assertIs(type(shown_bed(ALL)), str)

    def test_the_least(self):
        self.assertEqual(shown_bed((1, ((("letter", "a"),),), (), 1)), "keys 1 wait 1\nlayer a")

    def test_what_is_written_is_read_to_the_same_bed(self):
        for bed in many_beds():
            self.assertEqual(checked(bed), bed)
            self.assertIsNone(first_fault(shown_bed(bed)))
            self.assertEqual(read_bed(shown_bed(bed)), bed)

    def test_what_is_read_is_written_to_the_same_text(self):
        for bed in many_beds():
            self.assertEqual(shown_bed(read_bed(shown_bed(bed))), shown_bed(bed))


if __name__ == "__main__":
    unittest.main()
