"""Words and strokes: books, what words are written as, and what strokes are read as."""

from chordbed.beds import is_letter, rises
from chordbed.errors import NoBook, NoWord

MOST_WORDS = 20
MOST_LETTERS = 8
MOST_STROKES = 6
STROKE_KEYS = 12


def checked_book(book):
    """The book, a tuple of (WORD, STROKES), itself; refused with NoBook."""
    if not 1 <= len(book) <= MOST_WORDS:
        raise NoBook(None)
    for place, entry in enumerate(book):
        told_ahead = entry[0] in [other[0] for other in book[:place]]
        if told_ahead or not is_word(entry[0]) or not are_strokes(entry[1]):
            raise NoBook(place)
    return book


def is_word(text):
    """Whether a text can be a word of a book."""
    return 1 <= len(text) <= MOST_LETTERS and all([is_letter(sign) for sign in text])


def are_strokes(strokes):
    """Whether strokes can be those of a word."""
    return 1 <= len(strokes) <= MOST_STROKES and all([is_stroke(keys) for keys in strokes])


def is_stroke(keys):
    """Whether these are one key or more, rising, of those that strokes have."""
    return len(keys) >= 1 and rises(keys) and all([0 <= key < STROKE_KEYS for key in keys])


def written(book, words):
    """The strokes of a row of words; refused with NoWord."""
    strokes_of = dict(book)
    strokes = ()
    for word in words:
        if word not in strokes_of:
            raise NoWord(word)
        strokes += strokes_of[word]
    return strokes


def read_strokes(book, strokes):
    """A row of words that is written as these strokes, None where none is."""
    strokes_of = dict(book)
    last_words = last_words_of(book, strokes)
    place = len(strokes)
    if place not in last_words:
        return None
    words = []
    while place > 0:
        word = last_words[place]
        words.append(word)
        place -= len(strokes_of[word])
    return list(reversed(words))


def last_words_of(book, strokes):
    """A word that ends there, for each place up to which the strokes are written by a row of words (at 0, None)."""
    last_words = {0: None}
    for place in range(len(strokes)):
        if place in last_words:
            for word, part in book:
                end = place + len(part)
                if strokes[place:end] == part:
                    last_words[end] = word
    return last_words
