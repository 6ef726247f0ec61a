"""Lines: the desk's rows as they are written, and its answers."""

from chordbed.beds import is_letter
from chordbed.errors import NoRow
from chordbed.texts import all_read, read_number, read_parted

BED_AHEAD = "bed\n"
NOTHING = "."


def read_row(row):
    """A row's first word, and what the row tells behind it; refused with NoRow."""
    # The text of a bed has blanks of its own, so this row isn't parted by them.
    if row.startswith(BED_AHEAD):
        return ("bed", row[len(BED_AHEAD):])
    words = row.split(" ")
    what = read_words(words)
    if what is None:
        raise NoRow(f"no row: {row!r}")
    return (words[0], what)


def read_words(words):
    """What a row's words tell behind the first; None where they make no row."""
    word = words[0]
    count = len(words)
    if word in ("keys", "turn", "states") and count == 1:
        return ()
    if word == "frame" and count == 5:
        return read_frame(words[1:])
    if word in ("scan", "seen") and count == 2:
        return read_parted(words[1], ",")
    if word in ("down", "up") and count == 2:
        return read_number(words[1])
    if word == "word" and count == 2:
        return read_letters(words[1])
    return None


def read_frame(words):
    """ROWS, COLUMNS, BOUND and the spots; None where they aren't written so."""
    numbers = [read_number(word) for word in words[:3]]
    return all_read(numbers + [all_read([read_spot(word) for word in words[3].split(",")])])


def read_spot(word):
    """The spot that a word writes; None where it writes none."""
    spot = read_parted(word, ".")
    if spot is None or len(spot) != 2:
        return None
    return spot


def read_letters(word):
    """The word itself; None where it isn't one letter or more."""
    if word == "" or not all([is_letter(sign) for sign in word]):
        return None
    return word


def shown_sent(sent):
    """What is sent, written: + ahead of a letter's down, - ahead of its up."""
    return "".join([("+" if word == "down" else "-") + letter for letter, word in sent]) or NOTHING


def shown_keys(keys):
    """A set of keys, written."""
    return ",".join([str(key) for key in keys]) or NOTHING


def shown_seen(words):
    """How the keys are seen, a sign for each."""
    return "".join(["?" if word == "unsure" else word[0] for word in words])


def shown_length(row):
    """How many events a row has; never, where there is none."""
    if row is None:
        return "never"
    return str(len(row))
