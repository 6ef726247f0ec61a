"""A slow, plain telling of rests and of rows of words written alike, by going through all short rows of words.

Nothing here is drawn from the package.
"""

from itertools import combinations_with_replacement, product


def book_of(*all_strokes):
    """A book whose words a, b, c .. have these strokes, each written by its keys' figures parted by blanks."""
    entries = []
    for number, text in enumerate(all_strokes):
        strokes = tuple(tuple(int(figure) for figure in stroke) for stroke in text.split(" "))
        entries.append(("abcdefghijklmnopqrst"[number], strokes))
    return tuple(entries)


def rows_by_writing(book, most):
    """For each row of strokes, no longer than so many, all rows of words that are written so.

    With each row of words stand the numbers of strokes behind which its words end.
    """
    found = {(): [((), ())]}
    newest = [((), (), ())]
    while newest:
        longer = []
        for writing, row, ends in newest:
            for word, strokes in book:
                end = len(writing) + len(strokes)
                if end <= most:
                    longer.append((writing + strokes, row + (word,), ends + (end,)))
        for writing, row, ends in longer:
            found.setdefault(writing, []).append((row, ends))
        newest = longer
    return found


def fewest_alike(book, most):
    """The fewest strokes, no more than so many, that two unlike rows of words are written as; None where none are."""
    counts = [len(writing) for writing, rows in rows_by_writing(book, most).items() if len(rows) > 1]
    return min(counts, default=None)


def plain_rests(book, most):
    """The rests of a book that come with a price of no more than so many, each with its least, sorted [25].

    Two rows of words begin with unlike words and alike in strokes; the longer one's last word reaches over
    the end of the shorter one, and ahead of that no words of both end at the same place, since of () nothing comes.
    """
    rows = rows_by_writing(book, most)
    found = {}
    for writing, longer_rows in rows.items():
        for longer, ends in longer_rows:
            last_begins = ((0,) + ends)[-2] if longer else most
            for end in range(last_begins + 1, len(writing) + 1):
                for shorter, other_ends in rows.get(writing[:end], []):
                    shared = set(ends) & set(other_ends) - {len(writing)}
                    if shorter[0] != longer[0] and not shared:
                        rest = writing[end:]
                        found[rest] = min(len(writing), found.get(rest, len(writing)))
    return sorted(found.items())


def strokes_to_try(book, most=300):
    """Up to how many strokes, twelve at most, a book has no more than so many rows of words to go through."""
    counts = [1]
    while len(counts) <= 12:
        length = len(counts)
        counts.append(sum(counts[length - len(strokes)] for word, strokes in book if len(strokes) <= length))
        if sum(counts) > most:
            return length - 1
    return 12


def small_books():
    """Books of one word, of two and of three, each of up to three strokes of two kinds."""
    texts = []
    for count in (1, 2, 3):
        texts += [" ".join(figures) for figures in product(("0", "1"), repeat=count)]
    books = [book_of(text) for text in texts]
    books += [book_of(*pair) for pair in product(texts, repeat=2)]
    books += [book_of(*triple) for triple in combinations_with_replacement(texts, 3)]
    return books


def chosen_books():
    """Books of more words, of longer ones and of strokes of several keys."""
    return [
        book_of("01 2", "01", "2 34"),
        book_of("01", "0", "1"),
        book_of("0", "0 1", "1 2", "2"),
        book_of("0 1 2", "0 1", "2 0", "1 2"),
        book_of("0 1 0 1", "0", "1 0 1 0 0", "1 0"),
        book_of("0 0 0 0 0 0", "0 0 0 0"),
        book_of("0 0 0 0 0", "0 0 0"),
        book_of("0 1 1", "0", "1 1 0", "1 0 1"),
        book_of("0 1", "0 1 2 3", "2 3 0", "1 2"),
        book_of("0 12 0 12", "0 12", "12 0 12 3", "0 12 0"),
        book_of("0", "1", "2", "3", "0 1 2 3 0 1"),
        book_of("0 1 2 0 1", "0 1 2", "0 1 0"),
        book_of("0 1 2", "0", "1 2 0", "1 2 1 1 0 2", "2"),
        book_of("1 0 1 0", "1 1 0 1 0", "0 1 0 1 0 1", "1 1"),
        book_of("0 1 0 1 0", "1 0 0 1 0 1", "1 0 0 1", "1 0 1 0"),
        book_of("0", "0", "0"),
        book_of("0 1", "0 1", "1"),
    ]
