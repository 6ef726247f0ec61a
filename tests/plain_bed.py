"""What [15] to [18] say of a step, told as rows of moves, and beds to hold it against.

Nothing here draws from the package. A step is first told as moves, acts that come
and acts that go, and only then is what is sent counted from the moves.
"""

from itertools import combinations

REST = ((), None, None)
A, B, C, D, E = [("letter", sign) for sign in "abcde"]
NONE, BELOW = ("none",), ("below",)


def plain_layer(acts, once):
    """The layer of a standing [15]."""
    if once is not None:
        return once
    layers = [act[1] for key, act in acts if act[0] == "layer"]
    return sorted(layers)[-1] if layers else 0


def decided(bed, waiting):
    """The moves with which waiting keys are decided [18]."""
    keys, age, what = waiting
    if what[0] == "tap":
        return [("come", keys[0], ("layer", what[2]))]
    letters = {frozenset(chord[0]): chord[1] for chord in bed[2]}
    if frozenset(keys) in letters:
        acts = [("letter", letters[frozenset(keys)])] + [NONE for key in keys[1:]]
    else:
        acts = [bed[1][0][key] for key in keys]
    return [("come", key, act) for key, act in zip(keys, acts)]


def moved(acts, moves):
    """What is sent in a row of moves, and the acts behind them [16]."""
    acts, sent = dict(acts), []
    for move in moves:
        before = {act[1] for act in acts.values() if act[0] == "letter"}
        if move[0] == "come":
            acts[move[1]] = move[2]
        else:
            del acts[move[1]]
        behind = {act[1] for act in acts.values() if act[0] == "letter"}
        sent += [(letter, "down") for letter in behind - before] + [(letter, "up") for letter in before - behind]
    return sent, tuple(sorted(acts.items()))


def plain_step(bed, standing, event):
    """What [17] says, case by case: what is sent, and the standing behind."""
    moves, waiting, once = plain_moves(bed, standing, event)
    sent, acts = moved(standing[0], moves)
    return sent, (acts, waiting, once)


def plain_moves(bed, standing, event):
    """The moves of a step, and WAITING and ONCE behind it."""
    acts, waiting, once = standing
    word, key = event
    acting = key in [one for one, act in acts]
    waits = waiting is not None and key in waiting[0]
    if word == "turn":
        if waiting is None:
            return [], waiting, once
        if waiting[1] + 1 == bed[3]:
            return decided(bed, waiting), None, once
        return [], (waiting[0], waiting[1] + 1, waiting[2]), once
    if word == "up":
        if acting:
            return [("go", key)], waiting, once
        if not waits:
            return [], waiting, once
        if waiting[2][0] == "tap":
            return [("come", key, ("letter", waiting[2][1])), ("go", key)], None, once
        return decided(bed, waiting) + [("go", key)], None, once
    if acting or waits:
        return [], waiting, once
    return down_moves(bed, standing, key)


def down_moves(bed, standing, key):
    """The moves of a key that goes down and was up."""
    acts, waiting, once = standing
    sets = [set(chord[0]) for chord in bed[2]]
    if waiting is not None and waiting[2] == ("chord",) and plain_layer(acts, once) == 0:
        together = set(waiting[0]) | {key}
        if any(together <= one for one in sets):
            joined = (waiting[0] + (key,), waiting[1], ("chord",))
            if together in sets and not any(together < one for one in sets):
                return decided(bed, joined), None, once
            return [], joined, once
    moves = decided(bed, waiting) if waiting is not None else []
    layer = plain_layer(moved(acts, moves)[1], once)
    meaning = bed[1][layer][key]
    if meaning == BELOW:
        meaning = bed[1][0][key]
    if meaning[0] == "letter":
        if layer == 0 and any(key in one for one in sets):
            return moves, ((key,), 0, ("chord",)), None
        return moves + [("come", key, meaning)], None, None
    if meaning[0] == "layer":
        return moves + [("come", key, meaning)], None, once
    if meaning[0] == "none":
        return moves + [("come", key, meaning)], None, None
    if meaning[0] == "tap":
        return moves, ((key,), 0, meaning), None
    return moves + [("come", key, NONE)], None, meaning[1]


def all_events(bed):
    """The downs, the ups and the turn of a bed."""
    return [(word, key) for word in ("down", "up") for key in range(bed[0])] + [("turn", 0)]


def reached(bed, most):
    """Standings that rows of events lead to from rest, as they come, no more than so many."""
    found = {REST: True}
    waiting = [REST]
    while waiting and len(found) < most:
        here = waiting.pop(0)
        for event in all_events(bed):
            there = plain_step(bed, here, event)[1]
            if there not in found:
                found[there] = True
                waiting.append(there)
    return list(found)


def chosen_beds():
    """Beds that bring each case of [17] beside the others."""
    return [
        (1, ((A,),), (), 1),
        (1, ((("tap", "a", 1),), (B,)), (), 2),
        (2, ((A, A),), (), 1),
        (2, ((A, B),), (((0, 1), "c"),), 2),
        (2, ((A, B),), (((0, 1), "a"),), 1),
        (2, ((("layer", 1), A), (BELOW, B)), (), 1),
        (2, ((("once", 1), A), (BELOW, B)), (), 1),
        (2, ((("tap", "a", 1), ("tap", "b", 1)), (BELOW, BELOW)), (), 2),
        (2, ((("tap", "a", 1), ("tap", "a", 1)), (A, A)), (), 3),
        (3, ((A, B, C),), (((0, 1), "d"), ((0, 1, 2), "e")), 2),
        (3, ((A, B, C),), (((0, 1), "d"), ((1, 2), "e")), 3),
        (3, ((A, B, C),), (((0, 1), "c"), ((0, 2), "b"), ((1, 2), "a"), ((0, 1, 2), "a")), 1),
        (3, ((A, B, ("tap", "c", 1)), (C, BELOW, BELOW)), (((0, 1), "d"),), 2),
        (3, ((A, B, ("layer", 1)), (BELOW, C, BELOW)), (((0, 1), "d"),), 4),
        (3, ((A, B, ("once", 1)), (BELOW, ("tap", "c", 1), BELOW)), (((0, 1), "d"),), 2),
        (3, ((("layer", 1), ("layer", 2), A), (BELOW, BELOW, B), (BELOW, BELOW, C)), (), 1),
        (3, ((("layer", 2), ("layer", 1), A), (BELOW, BELOW, B), (NONE, NONE, C)), (), 1),
        (3, ((("once", 1), ("layer", 2), A), (("once", 2), BELOW, B), (("layer", 1), NONE, C)), (), 1),
        (3, ((("once", 1), ("once", 2), A), (BELOW, ("layer", 2), NONE), (("layer", 1), BELOW, C)), (), 2),
        (3, ((("tap", "a", 1), ("tap", "b", 2), C), (BELOW, BELOW, D), (("once", 1), NONE, E)), (), 2),
        (4, ((A, B, C, D),), (((0, 1), "x"), ((0, 1, 2, 3), "y"), ((2, 3), "z")), 2),
        (4, ((A, A, ("tap", "a", 1), NONE), (B, BELOW, ("layer", 1), A)), (((0, 1), "a"),), 2),
        (5, ((A, B, C, ("tap", "d", 1), ("once", 1)), (D, BELOW, ("tap", "e", 1), NONE, BELOW)),
         (((0, 1), "x"), ((0, 2), "y"), ((0, 1, 2), "z")), 2),
        (5, ((A, B, ("layer", 1), ("tap", "a", 2), ("once", 2)), (BELOW, C, ("layer", 2), A, ("once", 1)),
             (("tap", "b", 1), BELOW, BELOW, ("layer", 1), NONE)), (((0, 1), "a"),), 4),
    ]


def more_beds():
    """Beds of three keys with all manner of meanings, made without chance."""
    ground = [A, B, NONE, ("layer", 1), ("tap", "a", 1), ("once", 1), ("layer", 2), ("tap", "c", 2), ("once", 2), A, A]
    above = ground + [BELOW, BELOW, C]
    beds = []
    for number in range(120):
        layers = [tuple(ground[(number * (3 + 2 * key) + key) % len(ground)] for key in range(3))]
        if number % 3 == 0:
            # Else hardly a bed would have more than one chord.
            layers = [(A, B, ("letter", "aec"[number // 3 % 3]))]
        for layer in (1, 2):
            layers.append(tuple(above[(number * (5 + key) + layer + 3 * key) % len(above)] for key in range(3)))
        letters = [key for key in range(3) if layers[0][key][0] == "letter"]
        sets = [keys for size in (3, 2) for keys in combinations(letters, size)]
        chords = tuple((keys, "acde"[place]) for place, keys in enumerate(sets[:1 + number % 4]))
        beds.append((3, tuple(layers), chords, 1 + number % 3))
    return beds
