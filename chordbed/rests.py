"""Rests: what one row of words has over another, and whether two rows of words are written alike."""


def rests(book):
    """The rests (REST, PRICE) of a book, sorted, each with its least price."""
    ways = cheapest_ways(book)
    return sorted([(rest, ways[rest][0]) for rest in ways])


def twofold(book):
    """Two unlike rows of words that are written alike, by as few strokes as can be; None for a clear book."""
    ways = cheapest_ways(book)
    if () not in ways:
        return None
    return (list(ways[()][2]), list(ways[()][3]))


def cheapest_ways(book):
    """For each rest a cheapest way (PRICE, REST, LONGER, SHORTER): two rows of words, and what the longer has over."""
    ways = {}
    offers = {}
    offer(offers, first_ways(book))
    while offers != {}:
        # What comes of a way is never cheaper than it, so the cheapest offer can't be outdone.
        way = min(offers.values())
        ways[way[1]] = offers.pop(way[1])
        offer(offers, [further for further in next_ways(book, way) if further[1] not in ways])
    return ways


def offer(offers, ways):
    """Keeps, of the offers and these ways, the cheapest to each rest."""
    for way in ways:
        rest = way[1]
        offers[rest] = min(way, offers.get(rest, way))


def first_ways(book):
    """The ways of two unlike words of which the one's strokes begin the other's."""
    ways = []
    for one, part in book:
        for other, whole in book:
            if one != other and begins(part, whole):
                ways.append((len(whole), whole[len(part):], (other,), (one,)))
    return ways


def next_ways(book, way):
    """The ways on which a word more is put to the shorter row, which may become the longer by it."""
    price = way[0]
    rest = way[1]
    # Rows that are written alike already are at their end.
    if rest == ():
        return []
    ways = []
    for word, strokes in book:
        if begins(strokes, rest):
            ways.append((price, rest[len(strokes):], way[2], way[3] + (word,)))
        elif begins(rest, strokes):
            over = strokes[len(rest):]
            ways.append((price + len(over), over, way[3] + (word,), way[2]))
    return ways


def begins(part, whole):
    """Whether some strokes are the beginning of others, or alike."""
    return whole[:len(part)] == part
