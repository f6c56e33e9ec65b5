"""Sets of names as the bits of integers, and tables of such sets.

Here `every` is the tuple of all names that are looked at, in ascending order, and bit k stands
for the name every[k]. A bit table is a pair (starts, rows): starts is the list of the least
whole sets, and rows has for each of these names the list of its least after-sets, which is
empty for a name that does not occur. The sets of a list are in ascending order as integers.
"""

from lasttouch.programs import is_ascending, is_set


def bits_of(members, every):
    """Return the bits of a set, of which every name is known."""
    bits = 0
    for place, name in enumerate(every):
        if name in members:
            bits = bits | (1 << place)
    return bits


def named(bits, every):
    """Return the set with these bits."""
    return tuple([name for place, name in enumerate(every) if bits & (1 << place)])


def named_sets(sets, every):
    """Return the tuple of the sets with these bits, in ascending order."""
    return tuple(sorted([named(bits, every) for bits in sets]))


def contains_one(bits, sets):
    """Return whether the set contains one of the sets."""
    return any([(bits | other) == bits for other in sets])


def least(sets):
    """Return those of the sets that contain no other one of them, each once."""
    found = []
    # A set that is contained in another one is the smaller integer of the two.
    for bits in sorted(set(sets)):
        if not contains_one(bits, found):
            found.append(bits)
    return found


def are_least_sets(value, every):
    """Return whether the value is a tuple of sets of these names as a table has them in a row."""
    if not isinstance(value, tuple) or len(value) == 0 or not all([is_set(members) for members in value]):
        return False
    if not is_ascending(value) or not all([name in every for members in value for name in members]):
        return False
    return len(least([bits_of(members, every) for members in value])) == len(value)


def fits(bits, rows):
    """Return whether the set fits to the rows of a bit table."""
    behind = -1
    grown = 0
    # The more stands behind an action, the more likely it contains a set of its row. So what can
    # be put in front now can be put there at any later time, and no choice has to be taken back.
    while grown != behind:
        behind = grown
        for place, sets in enumerate(rows):
            if bits & (1 << place) and contains_one(behind, sets):
                grown = grown | (1 << place)
    return behind == bits


def do_table(place, every):
    """Return the bit table of the program that does the action with this place."""
    return [1 << place], [[0] if at == place else [] for at in range(len(every))]


def skip_table(every):
    """Return the bit table of skip."""
    return [0], [[] for _ in every]


def or_table(members):
    """Return the bit table of the or of programs with these bit tables."""
    starts = least([bits for first, _ in members for bits in first])
    rows = []
    for place in range(len(members[0][1])):
        rows.append(least([bits for _, others in members for bits in others[place]]))
    return starts, rows


def seq_table(one, other):
    """Return the bit table of a program with the one table and then one with the other."""
    before, rows_before = one
    behind, rows_behind = other
    starts = least(_unions(before, behind))
    rows = []
    for sets, kept in zip(rows_before, rows_behind):
        # Behind an action of one also stands a word of other. If that word contains the action,
        # this set contains the after-set within the word, so it does no harm to count it here.
        rows.append(least(kept + _unions(sets, behind)))
    return starts, rows


def table_names(table):
    """Return the set of the names that occur in a table."""
    return tuple([name for name, _ in table[1]])


def bit_table_of(table, every):
    """Return the bit table of a table, of which every name is known."""
    starts, rows = table
    found = {name: sets for name, sets in rows}
    return _bits_of_sets(starts, every), [_bits_of_sets(found.get(name, ()), every) for name in every]


def named_table(bit_table, every):
    """Return the table of a bit table."""
    starts, rows = bit_table
    named_rows = [(name, named_sets(sets, every)) for name, sets in zip(every, rows) if sets]
    return named_sets(starts, every), tuple(named_rows)


def _unions(first, second):
    """Return the unions of a set of the first list and one of the second."""
    return [one | other for one in first for other in second]


def _bits_of_sets(sets, every):
    """Return the list of the bits of sets, in ascending order."""
    return sorted([bits_of(members, every) for members in sets])
