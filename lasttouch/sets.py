"""The sets that fit to a table, and the families that they are."""

from lasttouch.bits import are_least_sets, bit_table_of, bits_of, fits, least, named_sets, table_names
from lasttouch.errors import InvalidFamily, InvalidNames
from lasttouch.programs import MOST_NAMES, check_set, is_ascending, is_set
from lasttouch.tables import check_table

MOST_SETS = 64


def is_fitting(table, names):
    """Return whether the set fits to the table."""
    return order(table, names) is not None


def fitting(table):
    """Return the family of all sets that fit to the table."""
    check_table(table)
    every = table_names(table)
    _, rows = bit_table_of(table, every)
    return named_sets([bits for bits in range(1 << len(every)) if fits(bits, rows)], every)


def order(table, names):
    """Return the least order in which the set fits to the table, or None."""
    check_table(table)
    check_set(names)
    every = table_names(table)
    _, rows = bit_table_of(table, every)
    left = bits_of(names, every)
    if not all([name in every for name in names]) or not fits(left, rows):
        return None
    word = []
    while left:
        place = _first_places(left, rows)[0]
        word.append(every[place])
        left = left - (1 << place)
    return tuple(word)


def is_family(value):
    """Return whether the value is a family."""
    if not isinstance(value, tuple) or len(value) > MOST_SETS or not all([is_set(members) for members in value]):
        return False
    every = _all_names(value)
    if len(every) > MOST_NAMES or not is_ascending(value):
        return False
    found = [bits_of(members, every) for members in value]
    known = {bits: True for bits in found}
    if 0 not in known or not all([(one | other) in known for one in found for other in found]):
        return False
    return all([bits == 0 or _is_built_up(bits, known, every) for bits in found])


def family_table(family, starts):
    """Return the table with these starts to which exactly the sets of the family fit."""
    if not is_family(family):
        raise InvalidFamily("not a family")
    every = _all_names(family)
    if not are_least_sets(starts, every) or not all([members in family for members in starts]):
        raise InvalidNames("not a tuple of sets of the family, none within another one")
    found = [bits_of(members, every) for members in family]
    known = {bits: True for bits in found}
    rows = []
    for place, name in enumerate(every):
        behind = [bits for bits in found if not bits & (1 << place) and (bits | (1 << place)) in known]
        rows.append((name, named_sets(least(behind), every)))
    return starts, tuple(rows)


def _all_names(family):
    """Return the set of the names in the sets."""
    return tuple(sorted({name for members in family for name in members}))


def _is_built_up(bits, known, every):
    """Return whether some name can be taken away such that a known set is left."""
    return any([bits & (1 << place) and (bits - (1 << place)) in known for place in range(len(every))])


def _first_places(bits, rows):
    """Return the places of the names that can stand before all others of a set that fits."""
    # In some order of the set there is enough behind each name, so there is if all others stand there.
    single = [1 << place for place in range(len(rows))]
    return [place for place, bit in enumerate(single) if bits & bit and fits(bits - bit, rows)]
