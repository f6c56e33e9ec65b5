"""Which programs can be told apart, and by what."""

from lasttouch.bits import AT_START, is_in, least, named, seq_table
from lasttouch.errors import InvalidSight
from lasttouch.programs import check_program, joined_names, names, reverse
from lasttouch.tables import bit_table, table

SIGHTS = ("forward", "backward", "both")


def equal(one, other, sight):
    """Return whether the two programs are equal in this sight."""
    check_program(one)
    check_program(other)
    if sight not in SIGHTS:
        raise InvalidSight("not a sight")
    joined_names(names(one), names(other))
    forward = sight == "backward" or table(one) == table(other)
    backward = sight == "forward" or table(reverse(one)) == table(reverse(other))
    return forward and backward


def difference(one, other):
    """Return None if the programs are equal, otherwise a labelling and a start that tell them apart."""
    every, first, second = _bit_tables(one, other)
    # To tell them apart some set must pass that is in the one table while no set of the same row
    # in the other one passes. With one such set passing and everything else killed they are.
    found = [(len(named(bits, every)), place, bits) for place, bits in _unmatched(first, second)]
    found.extend([(len(named(bits, every)), place, bits) for place, bits in _unmatched(second, first)])
    if not found:
        return None
    _, gen, passing = min(found)
    labelling = [(name, _mark(place, gen, passing)) for place, name in enumerate(every)]
    return tuple(labelling), gen == AT_START


def below(one, other):
    """Return whether the fact may hold behind other whenever it may hold behind one."""
    _, first, second = _bit_tables(one, other)
    return not _unmatched(first, second)


def idle_before(one, other):
    """Return whether one can be put before other without being seen."""
    _, first, second = _bit_tables(one, other)
    return seq_table(first, second) == second


def idle_behind(one, other):
    """Return whether one can be put behind other without being seen."""
    _, first, second = _bit_tables(one, other)
    return seq_table(second, first) == second


def exchange(one, other):
    """Return whether the order in which the two are done is not seen."""
    _, first, second = _bit_tables(one, other)
    return seq_table(first, second) == seq_table(second, first)


def _bit_tables(one, other):
    """Return the names of both programs and the bit tables of the two."""
    every = joined_names(names(one), names(other))
    return every, bit_table(one, every, {}), bit_table(other, every, {})


def _unmatched(first, second):
    """Return the pairs of a place and a least set at this place of the first bit table that is
    none of the sets at this place of the second one."""
    found = [(AT_START, bits) for bits in least(first[0]) if not is_in(bits, second[0])]
    for place, sets in enumerate(first[1]):
        found.extend([(place, bits) for bits in least(sets) if not is_in(bits, second[1][place])])
    return found


def _mark(place, gen, passing):
    """Return the mark of the name at this place."""
    if place == gen:
        return "gen"
    return "pass" if passing & (1 << place) else "kill"
