"""The sets that fit to a table, and the families that they are."""

from lasttouch.bits import (
    above, are_least_sets, bit_table_of, bits_of, bits_of_each, fitting_sets, is_in, least, listed_bits, named_sets,
    one_less, order_in_front, table_names, together,
)
from lasttouch.errors import InvalidFamily, InvalidNames
from lasttouch.programs import MOST_NAMES, check_set, is_ascending, is_set
from lasttouch.tables import check_table

MOST_SETS = 64


def is_fitting(table, names):
    """Return whether the set fits to the table."""
    return order(table, names) is not None


def fitting(table):
    """Return the family of all sets that fit to the table."""
    check_table(table)
    every = table_names(table)
    _, rows = bit_table_of(table, every)
    return named_sets(listed_bits(fitting_sets(rows)), every)


def order(table, names):
    """Return the least order in which the set fits to the table, or None."""
    check_table(table)
    check_set(names)
    every = table_names(table)
    _, rows = bit_table_of(table, every)
    bits, found = bits_of(names, every), fitting_sets(rows)
    if not all([name in every for name in names]) or not is_in(bits, found):
        return None
    return tuple([every[place] for place in order_in_front(bits, 0, found)])


def is_family(value):
    """Return whether the value is a family."""
    if not isinstance(value, tuple) or len(value) > MOST_SETS or not all([is_set(members) for members in value]):
        return False
    every = _all_names(value)
    if len(every) > MOST_NAMES or not is_ascending(value):
        return False
    listed = bits_of_each(value, every)
    found = together(listed)
    if not is_in(0, found) or not all([is_in(one | other, found) for one in listed for other in listed]):
        return False
    return all([bits == 0 or any([is_in(rest, found) for rest in one_less(bits)]) for bits in listed])


def family_table(family, starts):
    """Return the table with these starts to which exactly the sets of the family fit."""
    if not is_family(family):
        raise InvalidFamily("not a family")
    every = _all_names(family)
    if not are_least_sets(starts, every) or not all([members in family for members in starts]):
        raise InvalidNames("not a tuple of sets of the family, none within another one")
    listed = bits_of_each(family, every)
    found = together(listed)
    rows = []
    for place, name in enumerate(every):
        behind = [bits for bits in listed if not bits & (1 << place) and is_in(bits | (1 << place), found)]
        rows.append((name, named_sets(least(above(behind, len(every))), every)))
    return starts, tuple(rows)


def _all_names(family):
    """Return the set of the names in the sets."""
    return tuple(sorted({name for members in family for name in members}))
