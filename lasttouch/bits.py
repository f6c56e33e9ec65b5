"""Sets of names as the bits of integers, and tables of such sets.

Here `every` is the tuple of all names that are looked at, in ascending order, and bit k of a set
stands for the name every[k]. Some sets together are an integer, too: its bit number s tells
whether the set with the bits s is one of them.

A bit table is a pair (starts, rows). Where a table has the least ones of some sets, a bit table
has all sets that contain one of them: in starts for the whole sets, and in rows for the
after-sets of each name, none for a name that does not occur. So a set contains a union exactly
if it contains both, and a table is below another one exactly if its sets are among the others.
"""

from lasttouch.programs import is_ascending, is_set

# Stands for the start where otherwise the place of a name stands.
AT_START = -1
NO_SETS = 0
EMPTY_SET_ALONE = 1


def bits_of(members, every):
    """Return the bits of a set, of which every name is known."""
    bits = 0
    for place, name in enumerate(every):
        if name in members:
            bits = bits | (1 << place)
    return bits


def places(bits):
    """Return the places of the names of the set, in ascending order."""
    return [place for place in range(bits.bit_length()) if bits & (1 << place)]


def named(bits, every):
    """Return the set with these bits."""
    return tuple([every[place] for place in places(bits)])


def is_in(bits, sets):
    """Return whether the set is one of the sets."""
    return (sets & (1 << bits)) != 0


def together(listed):
    """Return the sets with the bits in this list."""
    sets = NO_SETS
    for bits in listed:
        sets = sets | (1 << bits)
    return sets


def listed_bits(sets):
    """Return the list of the bits of each of the sets, in ascending order."""
    return [bits for bits in range(sets.bit_length()) if is_in(bits, sets)]


def all_sets(many):
    """Return all sets of so many names."""
    return (1 << (1 << many)) - 1


def above(listed, many):
    """Return all sets of so many names that contain one of those in the list."""
    return together([bits for bits in range(1 << many) if any([(bits | one) == bits for one in listed])])


def least(sets):
    """Return the list of the least ones of sets among which with every set are all that contain it."""
    return [bits for bits in listed_bits(sets) if not any([is_in(rest, sets) for rest in one_less(bits)])]


def one_less(bits):
    """Return the list of the sets that are left if one name is taken away."""
    return [bits - (1 << place) for place in places(bits)]


def named_sets(listed, every):
    """Return the tuple of the sets with the bits in this list, in ascending order."""
    return tuple(sorted([named(bits, every) for bits in listed]))


def are_least_sets(value, every):
    """Return whether the value is a tuple of sets of these names as a table has them in a row."""
    if not isinstance(value, tuple) or len(value) == 0 or not all([is_set(members) for members in value]):
        return False
    if not is_ascending(value) or not all([name in every for members in value for name in members]):
        return False
    return len(least(above(bits_of_each(value, every), len(every)))) == len(value)


def bits_of_each(sets, every):
    """Return the list of the bits of each set of the tuple."""
    return [bits_of(members, every) for members in sets]


def fitting_sets(rows):
    """Return the sets that fit to the rows of a bit table."""
    found = EMPTY_SET_ALONE
    for bits in range(1, 1 << len(rows)):
        # Some name stands in front: the others fit, and they are enough behind it.
        if any([is_in(bits - (1 << place), found & rows[place]) for place in places(bits)]):
            found = found | (1 << bits)
    return found


def order_in_front(bits, tail, fitting):
    """Return the places of the least order in which the names that a set has more than tail, a set
    within it, can stand in front of those of tail. Both sets are among the fitting ones."""
    found = []
    while bits != tail:
        # In an order of the set each name that is not in tail can also be put in front of tail.
        # So there is one that can stand in front of all others.
        free = [place for place in places(bits - tail) if is_in(bits - (1 << place), fitting)]
        found.append(free[0])
        bits = bits - (1 << free[0])
    return found


def do_table(place, many):
    """Return the bit table of the program that does the action with this place, of so many names."""
    return above([1 << place], many), [all_sets(many) if at == place else NO_SETS for at in range(many)]


def skip_table(many):
    """Return the bit table of skip, with rows for so many names."""
    return all_sets(many), [NO_SETS for _ in range(many)]


def no_words_table(many):
    """Return the bit table of what has no words at all, with rows for so many names."""
    return NO_SETS, [NO_SETS for _ in range(many)]


def or_table(one, other):
    """Return the bit table of the or of two programs with these bit tables."""
    return one[0] | other[0], [sets | others for sets, others in zip(one[1], other[1])]


def seq_table(one, other):
    """Return the bit table of a program with the one table and then one with the other."""
    before, rows_before = one
    behind, rows_behind = other
    if before == NO_SETS:
        return one
    # Behind an action of one also stands a word of other. If that word contains the action, this
    # set contains the after-set within the word, so it does no harm to count it here.
    return before & behind, [kept | (sets & behind) for sets, kept in zip(rows_before, rows_behind)]


def table_names(table):
    """Return the set of the names that occur in a table."""
    return tuple([name for name, _ in table[1]])


def bit_table_of(table, every):
    """Return the bit table of a table, of which every name is known."""
    starts, rows = table
    found = {name: sets for name, sets in rows}
    many = len(every)
    bit_rows = [above(bits_of_each(found.get(name, ()), every), many) for name in every]
    return above(bits_of_each(starts, every), many), bit_rows


def named_table(bit_table, every):
    """Return the table of a bit table."""
    starts, rows = bit_table
    named_rows = [(name, named_sets(least(sets), every)) for name, sets in zip(every, rows) if sets]
    return named_sets(least(starts), every), tuple(named_rows)
