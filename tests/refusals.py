"""With what a bed or its text is refused, told as a tuple."""

from chordbed.errors import NoBed, NoChord, NoText


def refusal_of(ask, value):
    """The class and the fields with which a value is refused, None where it isn't."""
    try:
        ask(value)
    except NoText as error:
        return (NoText, error.row)
    except NoBed as error:
        return (NoBed, error.layer, error.key)
    except NoChord as error:
        return (NoChord, error.place)
    return None
