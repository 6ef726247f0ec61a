"""The rests of a book [25], and two rows of words that are written alike [26]."""

import unittest
from itertools import permutations, product

from chordbed.rests import rests, twofold
from chordbed.words import checked_book, read_strokes, written
from tests.plain_words import book_of, chosen_books, fewest_alike, plain_rests, small_books, strokes_to_try

# Words that go through the keys of all strokes, each over the end of another: 0, 0 1, 1 2, .. 10 11, 11.
CHAIN = tuple(
    [("start", ((0,),))]
    + [("link" + "abcdefghijk"[key], ((key,), (key + 1,))) for key in range(11)]
    + [("end", ((11,),))]
)
# No two unlike rows of words of these are written alike with fewer than eighteen and twenty strokes.
EIGHTEEN = book_of("1 0 1 0", "1 1 0 1 0", "0 1 0 1 0 1", "1 1")
TWENTY = book_of("0 1 0 1 0", "1 0 0 1 0 1", "1 0 0 1", "1 0 1 0")


def all_books():
    """Every book of these tests that is made elsewhere."""
    return small_books() + chosen_books()


class RestsByHand(unittest.TestCase):

    def test_one_word_has_none(self):
        self.assertEqual(rests(book_of("0")), [])
        self.assertEqual(rests(book_of("0 0")), [])
        self.assertEqual(rests((("word", ((0, 11),) * 6),)), [])

    def test_words_that_begin_unlike_have_none(self):
        self.assertEqual(rests(book_of("0", "1")), [])
        self.assertEqual(rests(book_of("0 1", "1 0", "2")), [])
        # Alike later on, or at the end, is no beginning.
        self.assertEqual(rests(book_of("0 1 2", "1 2")), [])
        self.assertEqual(rests(book_of("0 1", "0 2 1")), [])

    def test_a_stroke_is_alike_with_all_its_keys_alone(self):
        self.assertEqual(rests(book_of("01", "0", "1")), [])
        self.assertEqual(rests(book_of("01 2", "0 1 2")), [])

    def test_two_words_that_are_written_alike(self):
        self.assertEqual(rests(book_of("0", "0")), [((), 1)])
        self.assertEqual(rests(book_of("0 12 3", "0 12 3")), [((), 3)])
        self.assertEqual(rests((("one", ((4,),) * 6), ("two", ((4,),) * 6))), [((), 6)])

    def test_what_the_other_one_has_over(self):
        self.assertEqual(rests(book_of("0", "0 1")), [(((1,),), 2)])
        self.assertEqual(rests(book_of("0 1", "0")), [(((1,),), 2)])
        self.assertEqual(rests(book_of("0 1", "0 1 2 3 4 5")), [(((2,), (3,), (4,), (5,)), 6)])

    def test_of_a_rest_what_it_has_over_a_word_with_the_same_price(self):
        # 1 2 is what b has over a; c takes its beginning, and nothing is c's beginning or what 2 begins.
        self.assertEqual(rests(book_of("0", "0 1 2", "1")), [(((1,), (2,)), 3), (((2,),), 3)])

    def test_of_a_rest_what_a_word_has_over_it_with_as_much_more_price(self):
        # 1 is what b has over a, at 2; c has 2 3 over it, two strokes more.
        self.assertEqual(rests(book_of("0", "0 1", "1 2 3")), [(((1,),), 2), (((2,), (3,)), 4)])

    def test_a_word_that_is_just_the_rest(self):
        # b, or a and c.
        self.assertEqual(rests(book_of("0", "0 1", "1")), [((), 2), (((1,),), 2)])

    def test_of_nothing_over_nothing_comes(self):
        # Else 1 and 1 2 would be rests, and what c and d have over one another is one anyway.
        self.assertEqual(rests(book_of("0", "0", "1", "2 3")), [((), 1)])
        self.assertEqual(rests(book_of("0", "0", "1", "1 2")), [((), 1), (((2,),), 2)])

    def test_the_least_price(self):
        # 0 0 is what b has over a, at 3; so 0 comes of it with a at 3, and with b at 4.
        self.assertEqual(rests(book_of("0", "0 0 0")), [((), 3), (((0,),), 3), (((0,), (0,)), 3)])
        # 1 is over in c at 4 and in e at 2.
        self.assertEqual(rests(book_of("0 0 0", "2", "0 0 0 1", "2 1")), [(((1,),), 2)])
        # 2 3 is over in b at 6, and over d, a way of two steps, at 4.
        book = book_of("5 5 5 5", "5 5 5 5 2 3", "4", "4 1", "1 2 3")
        self.assertEqual(rests(book), [(((1,),), 2), (((2,), (3,)), 4)])

    def test_a_longer_one(self):
        # 2 over b (3), 0 over c's beginning 2 (4), 1 2 and 1 over 0 (6 and 5), 2 again over 1 (dearer), () of 1 2 (6).
        self.assertEqual(
            rests(book_of("0 1 2", "0 1", "2 0", "1 2")),
            [((), 6), (((0,),), 4), (((1,),), 5), (((1,), (2,)), 6), (((2,),), 3)],
        )

    def test_a_chain(self):
        expected = [((), 12)] + [(((key,),), key + 1) for key in range(1, 12)]
        self.assertEqual(rests(CHAIN), expected)

    def test_they_are_sorted(self):
        # The shorter ones come first where they are a beginning, then by their keys.
        book = book_of("7", "7 1 2", "7 1", "7 01", "7 0 3", "7 0", "7 023", "6", "6 9 9 9")
        self.assertEqual([rest for rest, price in rests(book)], [
            ((0,),), ((0,), (3,)), ((0, 1),), ((0, 2, 3),), ((1,),), ((1,), (2,)), ((2,),), ((3,),), ((9,), (9,), (9,)),
        ])

    def test_twenty_words_of_six_strokes(self):
        book = tuple(("abcdefghijklmnopqrst"[number], ((0,),) * 5 + ((number % 12,),)) for number in range(20))
        checked_book(book)
        # Eight pairs of words are alike: a and m, b and n, .. h and t.
        self.assertEqual(rests(book), [((), 6)])
        book = tuple(("w" + "abcdefghijklmnopqrst"[number], ((0,),) * (1 + number % 6)) for number in range(20))
        # Three words or four have one stroke, and as many each number up to six.
        self.assertEqual(rests(book)[0], ((), 1))
        self.assertEqual([rest for rest, price in rests(book)], [((0,),) * count for count in range(6)])
        self.assertEqual([price for rest, price in rests(book)], [1, 2, 3, 4, 5, 6])


class RestsByRows(unittest.TestCase):

    def test_as_going_through_rows_of_words_has_them(self):
        beyond = 0
        for book in all_books():
            most = strokes_to_try(book)
            told = rests(book)
            self.assertEqual([pair for pair in told if pair[1] <= most], plain_rests(book, most), book)
            beyond += told != [pair for pair in told if pair[1] <= most]
        # Hardly a book has rests that the rows gone through don't reach.
        self.assertLess(beyond, 5)

    def test_nothing_over_just_where_two_rows_are_written_alike(self):
        clear = 0
        for book in all_books():
            most = strokes_to_try(book)
            price = dict(rests(book)).get(())
            fewest = fewest_alike(book, most)
            if price is None or price > most:
                self.assertIsNone(fewest, book)
            else:
                self.assertEqual(price, fewest, book)
            clear += price is None
        self.assertGreater(clear, 100)
        self.assertGreater(len(all_books()) - clear, 100)

    def test_long_rows_of_strokes(self):
        for book, count in ((EIGHTEEN, 18), (TWENTY, 20)):
            self.assertIsNone(fewest_alike(book, count - 1))
            self.assertEqual(fewest_alike(book, count), count)
            self.assertEqual(rests(book)[0], ((), count))

    def test_the_order_of_the_words_is_nothing(self):
        for book in chosen_books():
            for other in list(permutations(book))[:120]:
                self.assertEqual(rests(other), rests(book))

    def test_kinds(self):
        for book in all_books():
            told = rests(book)
            self.assertIs(type(told), list)
            self.assertEqual(told, sorted(told))
            self.assertEqual(len({rest for rest, price in told}), len(told))
            for pair in told:
                self.assertIs(type(pair), tuple)
                self.assertEqual([type(one) for one in pair], [tuple, int])
                self.assertTrue(all(type(stroke) is tuple for stroke in pair[0]))

    def test_nothing_is_changed_and_the_list_is_the_askers_own(self):
        book = book_of("0 1 2", "0 1", "2 0", "1 2")
        first = rests(book)
        kept = list(first)
        second = rests(book)
        second.clear()
        self.assertEqual(first, kept)
        self.assertEqual(rests(book), kept)
        self.assertEqual(book, book_of("0 1 2", "0 1", "2 0", "1 2"))


class Twofold(unittest.TestCase):

    def holds(self, book, count):
        """Two unlike rows of words are told that are written alike, by so many strokes."""
        rows = twofold(book)
        self.assertIs(type(rows), tuple, book)
        self.assertEqual([type(row) for row in rows], [list, list])
        self.assertNotEqual(rows[0], rows[1])
        self.assertEqual(written(book, rows[0]), written(book, rows[1]))
        self.assertEqual(len(written(book, rows[0])), count, book)

    def told(self, book, one, other):
        """These two rows are told, the one or the other first."""
        self.assertEqual(sorted(twofold(book)), sorted([one, other]))

    def test_clear_books(self):
        for book in (
            book_of("0"), book_of("0 0 0 0 0 0"), book_of("0", "1"), book_of("01", "0", "1"), book_of("0", "0 1"),
            book_of("0", "1 0", "1 1"), book_of("0", "0 1", "1 1"), book_of("0 1 2", "1 2"),
        ):
            self.assertIsNone(twofold(book), book)

    def test_two_words_alike(self):
        self.told(book_of("0", "0"), ["a"], ["b"])
        self.told((("left", ((1, 2), (3,))), ("x", ((0,),)), ("right", ((1, 2), (3,)))), ["left"], ["right"])

    def test_by_hand(self):
        self.told(book_of("0", "0 1", "1"), ["b"], ["a", "c"])
        self.told(book_of("0", "0 1", "1 2", "2"), ["a", "c"], ["b", "d"])
        self.told(book_of("0", "0 0 0"), ["a", "a", "a"], ["b"])
        self.told(book_of("0 0", "0 0 0"), ["a", "b"], ["b", "a"])
        self.told(book_of("0 1 2", "0 1", "2 0", "1 2"), ["a", "a"], ["b", "c", "d"])
        self.told(CHAIN, ["start"] + ["link" + sign for sign in "bdfhj"] + ["end"],
                  ["link" + sign for sign in "acegik"])

    def test_the_same_word_may_end_both_and_none_too_many_stand_ahead(self):
        # 0 1 1 0 is a and b, or b and c.
        self.told(book_of("0 1 1", "0", "1 1 0"), ["a", "b"], ["b", "c"])

    def test_just_where_two_rows_are_written_alike(self):
        for book in all_books():
            most = strokes_to_try(book)
            fewest = fewest_alike(book, most)
            if fewest is not None:
                self.holds(book, fewest)
            elif twofold(book) is not None:
                self.assertGreater(len(written(book, twofold(book)[0])), most)

    def test_as_the_rests_have_it(self):
        for book in all_books():
            told = rests(book)
            if told[:1] and told[0][0] == ():
                self.holds(book, told[0][1])
            else:
                self.assertIsNone(twofold(book))

    def test_long_rows_of_strokes(self):
        self.holds(EIGHTEEN, 18)
        self.holds(TWENTY, 20)
        self.holds(CHAIN, 12)
        # Multiples of five and of six strokes, that are first alike at thirty, but the words may be put in any order.
        self.holds((("five", ((3, 7),) * 5), ("six", ((3, 7),) * 6)), 11)

    def test_of_a_clear_book_what_was_written_is_read(self):
        for book in all_books()[::7]:
            if twofold(book) is None:
                for count in range(4):
                    for words in product([word for word, strokes in book], repeat=count):
                        self.assertEqual(read_strokes(book, written(book, list(words))), list(words))

    def test_nothing_is_changed_and_the_lists_are_the_askers_own(self):
        book = book_of("0", "0 1", "1 2", "2")
        first = twofold(book)
        second = twofold(book)
        self.assertEqual(first, second)
        first[0].clear()
        first[1].append("a")
        self.assertEqual(twofold(book), second)
        self.assertEqual(book, book_of("0", "0 1", "1 2", "2"))
        alike = twofold(book_of("0", "0"))
        alike[0].append("x")
        self.assertEqual(len(alike[1]), 1)


if __name__ == "__main__":
    unittest.main()
