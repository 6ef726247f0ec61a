"""Beds: what the keys mean, layer by layer, and their chords."""

from chordbed.errors import NoBed, NoChord

MOST_KEYS = 5
MOST_LAYERS = 3
MOST_CHORDS = 4
MOST_WAIT = 4


def checked(bed):
    """The bed (KEYS, LAYERS, CHORDS, WAIT) itself; refused with NoBed, then with NoChord."""
    check_numbers(bed)
    for layer in range(len(bed[1])):
        check_layer(bed, layer)
    for place in range(len(bed[2])):
        check_chord(bed, place)
    return bed


def check_numbers(bed):
    """Refuses with NoBed where the keys, layers, chords or turns are too few or too many."""
    if not 1 <= bed[0] <= MOST_KEYS or not 1 <= len(bed[1]) <= MOST_LAYERS:
        raise NoBed(None, None)
    if len(bed[2]) > MOST_CHORDS or not 1 <= bed[3] <= MOST_WAIT:
        raise NoBed(None, None)


def check_layer(bed, layer):
    """Refuses with NoBed where a layer has not a meaning for each key, or one that can't be."""
    meanings = bed[1][layer]
    if len(meanings) != bed[0]:
        raise NoBed(layer, None)
    for key, meaning in enumerate(meanings):
        if not may_mean(meaning, layer, len(bed[1])):
            raise NoBed(layer, key)


def may_mean(meaning, layer, layers):
    """Whether a meaning can stand on a layer, of a bed with so many layers."""
    word = meaning[0]
    if word == "below":
        return layer != 0
    if word in ("letter", "tap") and not is_letter(meaning[1]):
        return False
    if word in ("layer", "tap", "once"):
        return 1 <= meaning[-1] < layers
    return True


def check_chord(bed, place):
    """Refuses with NoChord where a chord has no letter, or a set that can't be or was told ahead."""
    keys = bed[2][place][0]
    if not is_letter(bed[2][place][1]) or not is_chord_set(bed, keys):
        raise NoChord(place)
    if keys in [chord[0] for chord in bed[2][:place]]:
        raise NoChord(place)


def is_chord_set(bed, keys):
    """Whether these are two keys or more, rising, all of them letters on layer 0."""
    if len(keys) < 2 or not rises(keys):
        return False
    return all([0 <= key < bed[0] and bed[1][0][key][0] == "letter" for key in keys])


def rises(keys):
    """Whether each of these keys is greater than the one ahead of it."""
    return all([one < other for one, other in zip(keys, keys[1:])])


def is_letter(text):
    """Whether a text is one of the signs a to z."""
    return len(text) == 1 and "a" <= text <= "z"
