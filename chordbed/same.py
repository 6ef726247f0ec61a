"""Two beds: whether they mean the same, or a shortest row of events at which they don't."""

from chordbed.errors import NoKeys
from chordbed.plain import AT_REST, step
from chordbed.rooms import Places, events_of


def same(one, other, most=400):
    """("same", PAIRS) or ("apart", ROW); refused with NoKeys, then with TooMany."""
    if one[0] != other[0]:
        raise NoKeys("the two beds have not as many keys")
    events = events_of(one)
    pairs = Places((AT_REST, AT_REST), most)
    number = 0
    # Pairs come by how many events lead to them, so the first unlike step ends a shortest row.
    while number < len(pairs.found):
        standings = pairs.found[number][0]
        for event in events:
            first = step(one, standings[0], event)
            second = step(other, standings[1], event)
            if first[0] != second[0]:
                return ("apart", pairs.way_to(number) + [event])
            pairs.enter((first[1], second[1]), number, event)
        number += 1
    return ("same", [pair[0] for pair in pairs.found])
