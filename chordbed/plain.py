"""The plain reading: what downs, ups and turns mean on a bed, step by step."""

NONE = ("none",)
CHORD = ("chord",)
AT_REST = ((), None, None)


def layer_of(standing):
    """The layer on which a standing looks up meanings."""
    if standing[2] is not None:
        return standing[2]
    return max([act[1] for key, act in standing[0] if act[0] == "layer"], default=0)


def step(bed, standing, event):
    """What is sent in a step, a list of (X, WORD), and the standing behind it."""
    hand = Hand(bed, standing)
    if event[0] == "turn":
        hand.wait_on()
    elif event[0] == "down":
        hand.press(event[1])
    else:
        hand.lift(event[1])
    return (hand.sent, hand.stands())


def play(bed, events):
    """What is sent in each step of a row of events, from rest, and the standing at the end."""
    standing = AT_REST
    all_sent = []
    for event in events:
        answer = step(bed, standing, event)
        all_sent.append(answer[0])
        standing = answer[1]
    return (all_sent, standing)


class Hand:
    """A standing in the midst of a step, and what is sent so far."""

    def __init__(self, bed, standing):
        self.bed = bed
        self.acts = dict(standing[0])
        self.waiting = standing[1]
        self.once = standing[2]
        self.sent = []

    def stands(self):
        """The standing as it is now."""
        return (tuple([(key, self.acts[key]) for key in sorted(self.acts)]), self.waiting, self.once)

    def is_waiting(self, key):
        """Whether a key is down and not decided."""
        return self.waiting is not None and key in self.waiting[0]

    def press(self, key):
        """A key goes down."""
        if key in self.acts or self.is_waiting(key):
            return
        if self.makes_chord(key):
            self.put_to_chord(key)
            return
        if self.waiting is not None:
            self.decide()
        self.begin(key)

    def makes_chord(self, key):
        """Whether a key is one more of the keys that wait for a chord."""
        if self.waiting is None or self.waiting[2] != CHORD or layer_of(self.stands()) != 0:
            return False
        return chords_over(self.bed, self.waiting[0] + (key,)) != []

    def put_to_chord(self, key):
        """A key waits with the others, or makes up a chord that no further key can change."""
        keys = self.waiting[0] + (key,)
        self.waiting = (keys, self.waiting[1], CHORD)
        if [len(chord[0]) for chord in chords_over(self.bed, keys)] == [len(keys)]:
            self.decide()

    def begin(self, key):
        """A key's meaning is looked up, and it waits or is decided."""
        layer = layer_of(self.stands())
        meaning = looked_up(self.bed, layer, key)
        word = meaning[0]
        if word not in ("layer", "once"):
            self.once = None
        if word == "tap":
            self.waiting = ((key,), 0, meaning)
        elif word == "letter" and layer == 0 and chords_over(self.bed, (key,)) != []:
            self.waiting = ((key,), 0, CHORD)
        elif word == "once":
            self.come(key, NONE)
            self.once = meaning[1]
        else:
            self.come(key, meaning)

    def lift(self, key):
        """A key goes up."""
        if self.is_waiting(key):
            self.settle(key)
        if key in self.acts:
            self.go(key)

    def settle(self, key):
        """A key that goes up gets the act that it waited for."""
        what = self.waiting[2]
        if what == CHORD:
            self.decide()
        else:
            self.waiting = None
            self.come(key, ("letter", what[1]))

    def wait_on(self):
        """A turn goes by."""
        if self.waiting is None:
            return
        age = self.waiting[1] + 1
        self.waiting = (self.waiting[0], age, self.waiting[2])
        if age == self.bed[3]:
            self.decide()

    def decide(self):
        """The keys that wait get their acts: a tap as held."""
        keys = self.waiting[0]
        what = self.waiting[2]
        self.waiting = None
        acts = chord_acts(self.bed, keys) if what == CHORD else [("layer", what[2])]
        for key, act in zip(keys, acts):
            self.come(key, act)

    def come(self, key, act):
        """A key's act comes."""
        if act[0] == "letter" and not self.has_act(act):
            self.sent.append((act[1], "down"))
        self.acts[key] = act

    def go(self, key):
        """A key's act goes."""
        act = self.acts.pop(key)
        if act[0] == "letter" and not self.has_act(act):
            self.sent.append((act[1], "up"))

    def has_act(self, act):
        """Whether some key has this act."""
        return act in list(self.acts.values())


def looked_up(bed, layer, key):
    """A key's meaning on a layer."""
    meaning = bed[1][layer][key]
    if meaning[0] == "below":
        return bed[1][0][key]
    return meaning


def chords_over(bed, keys):
    """The chords in whose sets all these keys are."""
    return [chord for chord in bed[2] if all([key in chord[0] for key in keys])]


def chord_acts(bed, keys):
    """The acts of a chord's keys that are decided, in the order of the keys."""
    for chord in bed[2]:
        if list(chord[0]) == sorted(keys):
            return [("letter", chord[1])] + [NONE] * (len(keys) - 1)
    return [bed[1][0][key] for key in keys]
