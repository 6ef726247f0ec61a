"""Keying: the shortest rows of events that send a text's letters."""

from chordbed.plain import AT_REST, step
from chordbed.rooms import Places, events_of


def typing_rooms(bed, text, most=400):
    """The rooms (STANDING, DONE, PRICE) on the ways to a text, by their prices; refused with TooMany."""
    prices = []
    found = []
    for place, back, event in places_on(bed, text, most).found:
        price = 0 if back is None else prices[back] + 1
        prices.append(price)
        found.append((place[0], place[1], price))
    return found


def typed(bed, text, most=400):
    """A shortest row of events that sends a text, None where none does; refused as its rooms are."""
    # All rooms are walked ahead, since too many are refused though a row was found among the first.
    places = places_on(bed, text, most)
    end = (AT_REST, len(text))
    if end not in places.numbers:
        return None
    return places.way_to(places.numbers[end])


def places_on(bed, text, most):
    """The places (STANDING, DONE) on the ways to a text, as they come; refused with TooMany."""
    events = events_of(bed)
    places = Places((AT_REST, 0), most)
    number = 0
    # Places come by how many events lead to them, so the first way to each is a shortest one.
    while number < len(places.found):
        place = places.found[number][0]
        for event in events:
            answer = step(bed, place[0], event)
            done = done_behind(text, place[1], answer[0])
            if done is not None:
                places.enter((answer[1], done), number, event)
        number += 1
    return places


def done_behind(text, done, sent):
    """How many letters of a text are done behind a step that sends this; None where its downs aren't the next ones."""
    downs = "".join([letter for letter, word in sent if word == "down"])
    behind = done + len(downs)
    if text[done:behind] != downs:
        return None
    return behind
