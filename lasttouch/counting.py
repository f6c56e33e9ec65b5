"""How many tables and families there are."""

from lasttouch.bits import EMPTY_SET_ALONE, is_in, listed_bits, named_sets, places, together
from lasttouch.errors import InvalidNames, InvalidNumber
from lasttouch.programs import is_integer, is_set
from lasttouch.sets import family_table

MOST_IN_CLASSES = 3
MOST_IN_FAMILIES = 4
MOST_IN_TABLES = 2


def classes(number):
    """Return how many tables there are with names out of so many names."""
    if not is_integer(number, 0, MOST_IN_CLASSES):
        raise InvalidNumber("number is not an integer from 0 to 3")
    return sum([len(_starts_within(family)) for family in _families(number)])


def families(number):
    """Return how many families there are whose sets together have exactly so many given names."""
    if not is_integer(number, 0, MOST_IN_FAMILIES):
        raise InvalidNumber("number is not an integer from 0 to 4")
    # With its sets a family has their union, so all names together are one of its sets.
    whole = (1 << number) - 1
    return len([family for family in _families(number) if is_in(whole, family)])


def tables(names):
    """Return an iterator over all tables with names out of these, in ascending order."""
    if not is_set(names) or len(names) > MOST_IN_TABLES:
        raise InvalidNames("not a set of at most 2 names")
    found = []
    for family in _families(len(names)):
        sets = named_sets(listed_bits(family), names)
        found.extend([family_table(sets, named_sets(starts, names)) for starts in _starts_within(family)])
    for each in sorted(found):
        yield each


def _families(many):
    """Return the list of all families with names out of so many names."""
    found = [EMPTY_SET_ALONE]
    known = {EMPTY_SET_ALONE: True}
    at = 0
    # Such steps lead to every family: of its sets that are not yet there a least one without some
    # name of it is there.
    while at < len(found):
        greater = _one_step_greater(found[at], many)
        for family in greater:
            if family not in known:
                known[family] = True
                found.append(family)
        at += 1
    return found


def _one_step_greater(family, many):
    """Return the families that arise if a name is put into one set, and all unions are put in, too."""
    found = []
    listed = listed_bits(family)
    for bits in listed:
        for place in places((1 << many) - 1 - bits):
            new = bits | (1 << place)
            if not is_in(new, family):
                found.append(family | together([new | other for other in listed]))
    return found


def _starts_within(family):
    """Return the list of all lists of one or more sets of the family none of which contains another one."""
    found = [[]]
    for bits in listed_bits(family):
        # No earlier set contains this one, since it would be the greater integer of the two.
        longer = [[*starts, bits] for starts in found if not any([(one | bits) == bits for one in starts])]
        found.extend(longer)
    return found[1:]
