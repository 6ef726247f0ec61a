"""With what something is refused, told as a tuple: the class, then its fields."""

from chordbed.errors import (
    BedError, NoBed, NoBook, NoChord, NoFrame, NoKeys, NoReading, NoRow, NoText, NoWord, TooMany,
)

FIELDS = (
    (NoFrame, ("place",)), (NoReading, ()), (NoBed, ("layer", "key")), (NoChord, ("place",)), (NoText, ("row",)),
    (TooMany, ("most",)), (NoKeys, ()), (NoBook, ("place",)), (NoWord, ("word",)), (NoRow, ()),
)


def refusal_of(ask, value):
    """The class and the fields with which a value is refused, None where it isn't."""
    try:
        ask(value)
    except BedError as error:
        return told_of(error)
    return None


def told_of(error):
    """The class and the fields of a refusal."""
    names = dict(FIELDS)[type(error)]
    return (type(error),) + tuple(getattr(error, name) for name in names)


def answer_of(ask, value):
    """What is answered, or the class and the fields of the refusal."""
    try:
        return ask(value)
    except BedError as error:
        return told_of(error)
