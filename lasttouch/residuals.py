"""The greatest programs that can stand behind or before another one."""

from lasttouch.bits import (
    above, bit_table_of, fitting_sets, is_in, least, listed_bits, named_table, table_names, together,
)
from lasttouch.programs import joined_names
from lasttouch.tables import check_table


def most_behind(one, other):
    """Return the table of the greatest program that can be done behind one and stay below other."""
    every, (before, rows_before), (wanted, rows) = _bit_tables(one, other)
    if any([sets and not wanted_sets for sets, wanted_sets in zip(rows_before, rows)]):
        return None
    many = len(every)
    # Behind an action of one stands the whole set of the program behind it, too.
    starts = fitting_sets(rows) & _completing(before, wanted, many)
    for sets, wanted_sets in zip(rows_before, rows):
        starts = starts & _completing(sets, wanted_sets, many)
    return named_table((above(listed_bits(starts), many), rows), every)


def most_before(one, other):
    """Return the table of the greatest program that can be done before one and stay below other."""
    every, (behind, rows_behind), (wanted, wanted_rows) = _bit_tables(one, other)
    if any([(sets | wanted_sets) != wanted_sets for sets, wanted_sets in zip(rows_behind, wanted_rows)]):
        return None
    many = len(every)
    allowed = [_completing(behind, wanted_sets, many) for wanted_sets in wanted_rows]
    # Of what is allowed behind an action only that can stand there in which each action has
    # something behind it that is allowed for it.
    fitting = fitting_sets(allowed)
    rows = [above(listed_bits(sets & fitting), many) for sets in allowed]
    starts = _completing(behind, wanted, many) & fitting
    return named_table((above(listed_bits(starts), many), rows), every)


def _bit_tables(one, other):
    """Return the names of both tables and the bit tables of the two, after the checks."""
    check_table(one)
    check_table(other)
    every = joined_names(table_names(one), table_names(other))
    return every, bit_table_of(one, every), bit_table_of(other, every)


def _completing(sets, wanted, many):
    """Return the sets, of so many names, whose union with each one of the sets is a wanted one."""
    listed = least(sets)
    return together([bits for bits in range(1 << many) if all([is_in(bits | one, wanted) for one in listed])])
