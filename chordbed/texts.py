"""Texts: beds as they are written, row by row."""

from chordbed.beds import checked, is_letter
from chordbed.errors import NoText

FIGURES = "0123456789"


def read_bed(text):
    """The bed that a text writes; refused with NoText, then as a bed is."""
    rows = text.split("\n")
    numbers = read_numbers(rows[0].split(" "))
    if numbers is None:
        raise NoText(0)
    layers = []
    chords = []
    for place, row in enumerate(rows[1:], start=1):
        words = row.split(" ")
        layer = read_layer(words)
        chord = read_chord(words)
        # Behind the first chord a layer's row isn't in its place.
        if layer is not None and chords == []:
            layers.append(layer)
        elif chord is not None:
            chords.append(chord)
        else:
            raise NoText(place)
    return checked((numbers[0], tuple(layers), tuple(chords), numbers[1]))


def read_numbers(words):
    """KEYS and WAIT of a first row's words; None where they aren't written so."""
    if len(words) != 4 or words[0] != "keys" or words[2] != "wait":
        return None
    return all_read([read_number(words[1]), read_number(words[3])])


def read_layer(words):
    """The layer of a layer row's words; None where they aren't written so."""
    if len(words) < 2 or words[0] != "layer":
        return None
    return all_read([read_meaning(word) for word in words[1:]])


def read_chord(words):
    """The chord of a chord row's words; None where they aren't written so."""
    if len(words) != 3 or words[0] != "chord" or not is_letter(words[2]):
        return None
    keys = read_parted(words[1], "+")
    if keys is None:
        return None
    return (keys, words[2])


def all_read(values):
    """A tuple of the values; None where one of them is None."""
    if None in values:
        return None
    return tuple(values)


def read_meaning(word):
    """The meaning that a word writes; None where it writes none."""
    if word == ".":
        return ("none",)
    if word == "_":
        return ("below",)
    if is_letter(word):
        return ("letter", word)
    if word.startswith("~"):
        return all_read(["once", read_number(word[1:])])
    if word.startswith(">"):
        return all_read(["layer", read_number(word[1:])])
    if is_letter(word[:1]) and word[1:2] == ">":
        return all_read(["tap", word[0], read_number(word[2:])])
    return None


def read_parted(text, sign):
    """The numbers that a text writes, parted by a sign; None where it isn't written so."""
    return all_read([read_number(word) for word in text.split(sign)])


def read_number(word):
    """The number that a word writes by one or two figures; None where it writes none."""
    if not 1 <= len(word) <= 2 or not all([sign in FIGURES for sign in word]):
        return None
    if len(word) == 2 and word[0] == "0":
        return None
    return int(word)


def shown_bed(bed):
    """The text that writes a bed."""
    keys = bed[0]
    wait = bed[3]
    rows = [f"keys {keys} wait {wait}"]
    for layer in bed[1]:
        rows.append(" ".join(["layer"] + [shown_meaning(meaning) for meaning in layer]))
    for chord in bed[2]:
        rows.append(" ".join(["chord", "+".join([str(key) for key in chord[0]]), chord[1]]))
    return "\n".join(rows)


def shown_meaning(meaning):
    """The word that writes a meaning."""
    word = meaning[0]
    if word == "none":
        return "."
    if word == "below":
        return "_"
    if word == "letter":
        return meaning[1]
    number = str(meaning[-1])
    if word == "once":
        return "~" + number
    if word == "layer":
        return ">" + number
    return meaning[1] + ">" + number
