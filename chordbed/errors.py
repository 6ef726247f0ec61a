"""The refusals: one class for each, all under BedError."""


class BedError(ValueError):
    """Any refusal."""


class NoFrame(BedError):
    """No frame; place is the faulty spot's, None where a number is at fault."""

    def __init__(self, place):
        BedError.__init__(self, f"no frame, place {place}")
        self.place = place


class NoReading(BedError):
    """A reading that no set of keys reads."""


class NoBed(BedError):
    """No bed; layer and key tell where, None where that is not what is at fault."""

    def __init__(self, layer, key):
        BedError.__init__(self, f"no bed, layer {layer}, key {key}")
        self.layer = layer
        self.key = key


class NoChord(BedError):
    """A bed's chord that is none; place is the chord's."""

    def __init__(self, place):
        BedError.__init__(self, f"no chord, place {place}")
        self.place = place


class NoText(BedError):
    """A text that writes no bed; row is the first that isn't written so."""

    def __init__(self, row):
        BedError.__init__(self, f"no text of a bed, row {row}")
        self.row = row


class TooMany(BedError):
    """More rooms or pairs than most."""

    def __init__(self, most):
        BedError.__init__(self, f"more than {most}")
        self.most = most


class NoKeys(BedError):
    """Two beds that have not as many keys."""


class NoBook(BedError):
    """No book; place is the faulty word's, None where their number is at fault."""

    def __init__(self, place):
        BedError.__init__(self, f"no book, place {place}")
        self.place = place


class NoWord(BedError):
    """A word that isn't in the book."""

    def __init__(self, word):
        BedError.__init__(self, f"no word of the book: {word!r}")
        self.word = word


class NoRow(BedError):
    """A row that the desk doesn't know."""
