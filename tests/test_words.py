"""Books and what words are written as [24], what strokes are read as [27]."""

import unittest
from itertools import combinations, product

from chordbed.errors import BedError, NoBook, NoWord
from chordbed.words import checked_book, read_strokes, written

NO_WORDS = (
    "", "aaaaaaaaa", "abcdefghijkl", "A", "aB", "Za", "a b", " ", "a ", " a", "a1", "1", "a-b", "`", "{", "a{", "`a",
    "a\n", "\n", "a\tb", "~",
)
NO_STROKES = (
    (), ((),), ((0,), ()), ((), (0,)), ((12,),), ((0,), (12,)), ((-1,),), ((-1, 0),), ((0, 12),), ((1, 0),), ((0, 0),),
    ((3, 5, 4),), ((0, 2, 2),), ((5,), (0, 1, 1)), ((0,),) * 7, ((0,), (1,), (2,), (3,), (4,), (5,), (0, 1)),
    ((11, 12),), ((10000000000000000000,),),
)
BOOK = (("a", ((0,),)), ("ab", ((0, 1),)), ("ba", ((1,), (0,))), ("cat", ((2,), (0,), (3, 11))))
TWENTY = "abcdefghijklmnopqrst"


def book_of(count):
    """A book of so many words of one letter."""
    return tuple((letter, ((place % 12,),)) for place, letter in enumerate((TWENTY + "uvwxyz")[:count]))


def put(book, place, entry):
    """A book with another entry at that place."""
    return book[:place] + (entry,) + book[place + 1:]


def all_writings(book, most):
    """Each row of strokes, no longer than most, that rows of words are written as, with these rows."""
    found = {}
    rows = [((), ())]
    while rows:
        words, strokes = rows.pop()
        if len(strokes) <= most:
            found.setdefault(strokes, set()).add(words)
            rows += [(words + (word,), strokes + part) for word, part in book]
    return found


class CheckedBook(unittest.TestCase):

    def refused(self, book, place):
        with self.assertRaises(NoBook, msg=repr(book)) as caught:
            checked_book(book)
        self.assertEqual(caught.exception.place, place, book)
        self.assertIsInstance(caught.exception, BedError)

    def taken(self, book):
        answer = checked_book(book)
        self.assertEqual(answer, book)
        self.assertIs(type(answer), tuple)

    def test_the_book_that_is_handed(self):
        self.taken(BOOK)
        self.taken((("a", ((0,),)),))

    def test_each_number_of_words(self):
        for count in range(1, 21):
            self.taken(book_of(count))

    def test_too_few_or_too_many_words(self):
        self.refused((), None)
        self.refused(book_of(21), None)
        self.refused(book_of(26), None)

    def test_the_number_comes_ahead_of_the_words(self):
        self.refused(put(book_of(21), 0, ("", ())), None)
        self.refused((("a", ((0,),)),) * 21, None)

    def test_words_of_one_to_eight_letters(self):
        for length in range(1, 9):
            self.taken((("z" * length, ((0,),)),))
        self.taken(tuple(("abcdefghij"[start:start + length], ((0,),)) for start in range(3) for length in range(1, 7)))
        self.refused((("z" * 9, ((0,),)),), 0)

    def test_each_letter(self):
        for letter in "abcdefghijklmnopqrstuvwxyz":
            self.taken(((letter, ((0,),)), ("a" + letter + "z", ((1,),))))

    def test_no_words(self):
        for word in NO_WORDS:
            for place in range(4):
                self.refused(put(BOOK, place, (word, ((4,),))), place)
            self.refused(((word, ((4,),)),), 0)

    def test_words_told_ahead(self):
        for first, second in combinations(range(4), 2):
            self.refused(put(BOOK, second, (BOOK[first][0], ((7,),))), second)
            self.refused(put(BOOK, second, BOOK[first]), second)
        self.refused(put(book_of(20), 19, ("a", ((7,),))), 19)

    def test_strokes_may_be_told_ahead(self):
        self.taken(tuple((word, ((0, 1),)) for word in TWENTY))

    def test_one_to_six_strokes(self):
        for count in range(1, 7):
            self.taken((("a", ((0,),) * count),))
            self.taken((("a", tuple((key, key + 6) for key in range(count))),))
        self.refused((("a", ()),), 0)
        self.refused((("a", ((0,),) * 7),), 0)

    def test_each_stroke_of_each_key(self):
        for size in range(1, 13):
            for keys in combinations(range(12), size):
                self.assertEqual(checked_book((("a", (keys,)),)), (("a", (keys,)),))

    def test_no_strokes(self):
        for strokes in NO_STROKES:
            for place in range(4):
                self.refused(put(BOOK, place, ("word", strokes)), place)

    def test_each_stroke_is_looked_at(self):
        for count in range(1, 7):
            for place in range(count):
                for wrong in ((), (12,), (-1,), (2, 1), (1, 1)):
                    self.refused((("a", put(((0,),) * count, place, wrong)),), 0)

    def test_the_first_that_is_not_so(self):
        wrong = (("", ((0,),)), ("A", ((0,),)), ("long" * 3, ((0,),)), ("x", ()), ("x", ((12,),)), ("x", ((1, 0),)))
        for one, other in product(wrong, repeat=2):
            for first, second in combinations(range(4), 2):
                self.refused(put(put(BOOK, first, one), second, other), first)
        for one in wrong:
            # What was told ahead is a fault too, ahead of another and behind it.
            self.refused(put(put(BOOK, 1, ("a", ((5,),))), 2, one), 1)
            self.refused(put(put(BOOK, 1, one), 2, ("a", ((5,),))), 1)

    def test_a_word_with_several_faults_is_told_once(self):
        self.refused((("a", ((0,),)), ("a", ())), 1)
        self.refused((("", ()), ("", ())), 0)


class Written(unittest.TestCase):

    def refused(self, book, words, word):
        with self.assertRaises(NoWord, msg=repr(words)) as caught:
            written(book, words)
        self.assertEqual(caught.exception.word, word)
        self.assertIsInstance(caught.exception, BedError)

    def test_no_words(self):
        self.assertEqual(written(BOOK, []), ())

    def test_each_word(self):
        for word, strokes in BOOK:
            self.assertEqual(written(BOOK, [word]), strokes)

    def test_one_word_behind_the_other(self):
        self.assertEqual(written(BOOK, ["ba", "a"]), ((1,), (0,), (0,)))
        self.assertEqual(written(BOOK, ["a", "ba"]), ((0,), (1,), (0,)))
        self.assertEqual(written(BOOK, ["cat", "ab", "cat"]), ((2,), (0,), (3, 11), (0, 1), (2,), (0,), (3, 11)))
        self.assertEqual(written(BOOK, ["a", "a", "a"]), ((0,), (0,), (0,)))

    def test_all_rows_of_words(self):
        strokes_of = dict(BOOK)
        for count in range(5):
            for words in product([word for word, strokes in BOOK], repeat=count):
                answer = written(BOOK, list(words))
                self.assertIs(type(answer), tuple)
                self.assertEqual(list(answer), [stroke for word in words for stroke in strokes_of[word]])

    def test_two_hundred_words(self):
        self.assertEqual(written(BOOK, ["cat"] * 200), BOOK[3][1] * 200)
        six = (("six", tuple((key,) for key in range(6))),)
        self.assertEqual(written(six, ["six"] * 200), six[0][1] * 200)

    def test_a_word_that_is_not_in_the_book(self):
        for word in NO_WORDS + ("b", "aa", "abb", "c", "ca", "cats", "at"):
            self.refused(BOOK, [word], word)
            self.refused(BOOK, ["a", "cat", word], word)
            self.refused(BOOK, [word, "a"], word)
            self.refused(BOOK, ["ab", word, "ba"], word)

    def test_the_first_that_is_not_in_the_book(self):
        self.refused(BOOK, ["a", "x", "ba", "y"], "x")
        self.refused(BOOK, ["y", "x"], "y")

    def test_nothing_is_changed(self):
        words = ["a", "cat"]
        written(BOOK, words)
        self.assertEqual(words, ["a", "cat"])


class ReadStrokes(unittest.TestCase):

    BOOKS = (
        BOOK,
        (("a", ((0,),)), ("b", ((0,), (0,)))),
        (("b", ((0,), (0,))), ("a", ((0,), (0,), (0,)))),
        (("a", ((0,),)), ("b", ((0,), (1,))), ("c", ((1,), (1,)))),
        (("a", ((0,), (1,))), ("b", ((0,),)), ("c", ((1,), (0,))), ("d", ((1,), (0,), (1,)))),
        (("a", ((0,),)), ("b", ((0,),)), ("c", ((1,),))),
        (("a", ((0, 1),)), ("b", ((0,),)), ("c", ((1,),))),
        (("long", ((0,), (1,), (0,), (1,), (0,), (0,))), ("s", ((0,), (1,))), ("t", ((0,),))),
    )

    def test_no_strokes_at_all(self):
        for book in self.BOOKS:
            self.assertEqual(read_strokes(book, ()), [])

    def test_each_word(self):
        for word, strokes in BOOK:
            self.assertEqual(read_strokes(BOOK, strokes), [word])

    def test_words_written_and_read_again(self):
        # No two rows of words of this book are written alike, so it is the one that was written.
        for count in range(6):
            for words in product([word for word, strokes in BOOK], repeat=count):
                self.assertEqual(read_strokes(BOOK, written(BOOK, list(words))), list(words))

    def test_strokes_that_no_row_of_words_writes(self):
        for strokes in (((1,),), ((2,),), ((2,), (0,)), ((2,), (0,), (3,)), ((0,), (1,)), ((0,), (4,)), ((4,), (0,)),
                        ((1,), (0,), (1,)), ((3, 11),), ((0, 1, 2),), ((2,), (0,), (3, 11), (2,)), ((1,), (1,), (0,))):
            self.assertIsNone(read_strokes(BOOK, strokes), strokes)

    def test_a_word_that_ends_behind_the_strokes_is_none(self):
        self.assertIsNone(read_strokes((("a", ((0,), (0,))),), ((0,),)))
        self.assertIsNone(read_strokes((("a", ((0,), (0,))),), ((0,), (0,), (0,))))

    def test_a_longer_or_a_shorter_word_first_would_lead_nowhere(self):
        book = (("a", ((0,),)), ("b", ((0,), (1,))), ("c", ((1,), (1,))))
        self.assertEqual(read_strokes(book, ((0,), (1,))), ["b"])
        self.assertEqual(read_strokes(book, ((0,), (1,), (1,))), ["a", "c"])
        self.assertEqual(read_strokes(book, ((0,), (1,), (1,), (1,))), ["b", "c"])

    def test_one_of_several_rows(self):
        book = (("a", ((0,),)), ("b", ((0,), (0,))))
        self.assertIn(read_strokes(book, ((0,), (0,))), (["a", "a"], ["b"]))
        book = (("a", ((0,),)), ("b", ((0,),)))
        self.assertIn(read_strokes(book, ((0,),)), (["a"], ["b"]))

    def test_as_all_rows_of_words_have_it(self):
        for book in self.BOOKS:
            checked_book(book)
            writings = all_writings(book, 6)
            some_strokes = sorted({stroke for word, strokes in book for stroke in strokes})[:3] + [(9,)]
            for count in range(7):
                for strokes in product(some_strokes, repeat=count):
                    answer = read_strokes(book, strokes)
                    if strokes in writings:
                        self.assertIs(type(answer), list)
                        self.assertIn(tuple(answer), writings[strokes])
                    else:
                        self.assertIsNone(answer, (book, strokes))

    def test_two_hundred_strokes(self):
        book = (("a", ((0,),)), ("b", ((0,), (0,))), ("c", ((0,), (0,), (0,))), ("d", ((0,), (0,), (0,), (1,))))
        strokes = ((0,),) * 200
        words = read_strokes(book, strokes)
        self.assertEqual(written(book, words), strokes)
        self.assertIsNone(read_strokes(book, strokes[:-1] + ((2,),)))
        strokes = strokes[:-1] + ((1,),)
        words = read_strokes(book, strokes)
        self.assertEqual(words[-1], "d")
        self.assertEqual(written(book, words), strokes)

    def test_the_list_is_the_askers_own(self):
        strokes = written(BOOK, ["a", "cat"])
        first = read_strokes(BOOK, strokes)
        first.clear()
        self.assertEqual(read_strokes(BOOK, strokes), ["a", "cat"])
        none = read_strokes(BOOK, ())
        none.append("a")
        self.assertEqual(read_strokes(BOOK, ()), [])


if __name__ == "__main__":
    unittest.main()
