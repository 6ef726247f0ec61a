"""A slow, plain telling of the ways to a text, from the steps of tests/plain_bed.py.

Nothing here is drawn from the package.
"""

from itertools import product

from tests.plain_bed import A, B, BELOW, C, NONE, REST, all_events, plain_step

ONE_LETTER = (1, ((A,),), (), 1)
ONE_TAP = (1, ((("tap", "a", 1),), (B,)), (), 2)
# Beds and texts with just as many typing rooms as are told by themselves, and with one more.
TYPING_400 = (
    ((3, ((A, B, ("once", 1)), (BELOW, ("tap", "c", 1), BELOW)), (((0, 1), "d"),), 2), "aaaaabdd", 20),
    ((3, ((("layer", 1), ("layer", 2), A), (B, ("tap", "a", 1), ("tap", "c", 2)), (NONE, ("once", 1), ("once", 2))),
      (), 3), "bb", 8),
    (ONE_TAP, "a" * 99, 198),
    (ONE_TAP, "a" * 99 + "b", None),
)
TYPING_401 = (
    ((3, ((A, B, C),), (((0, 1), "c"), ((0, 2), "b"), ((1, 2), "a"), ((0, 1, 2), "a")), 1), "baaa", 8),
    ((3, ((NONE, ("once", 2), ("layer", 1)), (("tap", "a", 1), NONE, A), (("once", 1), ("layer", 1), B)), (), 3),
     "aaaaa", 12),
    (ONE_LETTER, "a" * 200, 400),
    (ONE_LETTER, "a" * 200 + "b", None),
)


def downs_of(sent):
    """The letters that go down in what is sent."""
    return [letter for letter, word in sent if word == "down"]


def plain_ways(bed, text):
    """For each (STANDING, DONE) the least number of events of a row that leads there [28]."""
    events = all_events(bed)
    prices = {(REST, 0): 0}
    newest = {(REST, 0)}
    price = 0
    while newest:
        price += 1
        there = set()
        for standing, done in newest:
            for event in events:
                sent, behind = plain_step(bed, standing, event)
                letters = list(text[:done]) + downs_of(sent)
                # Just the first letters of the text went down, however many.
                if letters == list(text)[:len(letters)]:
                    there.add((behind, len(letters)))
        newest = there - set(prices)
        prices.update({place: price for place in newest})
    return prices


def plain_length(bed, text):
    """How many events a shortest row has that types a text; None where none does."""
    return plain_ways(bed, text).get((REST, len(text)))


def lengths_by_text(bed, longest):
    """For each text that some row of so many events or fewer types, the least number of events of such a row.

    All rows of events are gone through; of those that lead to one standing with one text sent, one is gone on with.
    """
    events = all_events(bed)
    found = {}
    newest = {(REST, "")}
    for length in range(longest + 1):
        there = set()
        for standing, text in newest:
            if standing == REST:
                found.setdefault(text, length)
            for event in events:
                sent, behind = plain_step(bed, standing, event)
                there.add((behind, text + "".join(downs_of(sent))))
        newest = there
    return found


def lengths_by_rows(bed, longest):
    """The same, row by row, each played from rest to its end."""
    found = {}
    for length in range(longest + 1):
        for row in product(all_events(bed), repeat=length):
            standing, text = REST, ""
            for event in row:
                sent, standing = plain_step(bed, standing, event)
                text += "".join(downs_of(sent))
            if standing == REST:
                found.setdefault(text, length)
    return found


def letters_of(bed):
    """The letters that a bed can send, sorted."""
    letters = {meaning[1] for layer in bed[1] for meaning in layer if meaning[0] in ("letter", "tap")}
    return sorted(letters | {chord[1] for chord in bed[2]})


def texts_for(bed, longest):
    """Texts of a bed's letters, of so many or fewer, and some with a letter that it hasn't."""
    letters = letters_of(bed)[:3]
    texts = ["".join(signs) for count in range(longest + 1) for signs in product(letters, repeat=count)]
    return texts + ["q", "".join(letters[:1]) + "q"]
