"""As few words as possible to which every set of a table belongs.

A pair (place, bits) stands for a set of the row of the name with this place, or, if the place is
AT_START, for a set of starts. A word has such a pair if the set is its after-set of this name, or
its whole set. The pairs that one word has are a chain: each one lies within the set of the next.
"""

from lasttouch.bits import AT_START, least, order_in_front


def pairs_of(bit_table):
    """Return the list of the pairs of a bit table, those of starts first."""
    starts, rows = bit_table
    found = [(AT_START, bits) for bits in least(starts)]
    for place, sets in enumerate(rows):
        found.extend([(place, bits) for bits in least(sets)])
    return found


def with_name(pair):
    """Return the set of a pair with its name put in."""
    place, bits = pair
    return bits if place == AT_START else bits | (1 << place)


def chains(pairs):
    """Return as few chains as possible with every pair in one of them, each with its last pair first.

    Those of starts come first, in the order of the pairs, since a pair of starts is always the last.
    """
    inner = _links(_outer_ones(pairs))
    linked = {number: True for number in inner.values()}
    found = []
    for at in range(len(pairs)):
        if at not in linked:
            numbers = [at]
            while numbers[-1] in inner:
                numbers.append(inner[numbers[-1]])
            found.append([pairs[number] for number in numbers])
    return found


def apart_pairs(pairs):
    """Return as many of the pairs as there are chains, no two of which one word can have."""
    outer = _outer_ones(pairs)
    inner = _links(outer)
    linked = {number: True for number in inner.values()}
    # The last pair of each chain is reached. If a pair is reached from within, too, so is the one
    # before it in its chain; the first one is not, or there could be more links. So one pair of
    # each chain is chosen, and none lies within another one, which would be reached from within.
    waiting = [at for at in range(len(pairs)) if at not in linked]
    reached = {at: True for at in waiting}
    from_within = {}
    while waiting:
        low = waiting.pop()
        for high in outer[low]:
            from_within[high] = True
            if inner[high] not in reached:
                reached[inner[high]] = True
                waiting.append(inner[high])
    return [pair for at, pair in enumerate(pairs) if at in reached and at not in from_within]


def chain_word(whole, chain, fitting):
    """Return the places of a word of just the names of the set whole, each once, that has all pairs
    of the chain. Whole is among the sets that fit and contains the chain's last pair."""
    found = []
    left = whole
    for place, bits in chain:
        found.extend(order_in_front(left, with_name((place, bits)), fitting))
        if place != AT_START:
            found.append(place)
        left = bits
    found.extend(order_in_front(left, 0, fitting))
    return found


def _outer_ones(pairs):
    """Return for each pair the list of the numbers of those whose sets contain it."""
    found = []
    for pair in pairs:
        found.append([at for at, other in enumerate(pairs) if _is_within(pair, other)])
    return found


def _is_within(pair, other):
    """Return whether the set of the other pair contains the set and the name of this one."""
    return pair[0] != AT_START and (other[1] | with_name(pair)) == other[1]


def _links(outer):
    """Return the dict that links as many numbers as possible to one of their outer ones, none of
    which is linked twice: from the outer one to the inner one."""
    inner = {}
    for low in range(len(outer)):
        _link(low, outer, inner, {})
    return inner


def _link(low, outer, inner, tried):
    """Link the number to one that has not been tried, if others can make room; return whether it is."""
    for high in outer[low]:
        if high not in tried:
            tried[high] = True
            if high not in inner or _link(inner[high], outer, inner, tried):
                inner[high] = low
                return True
    return False
