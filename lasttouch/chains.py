"""How a word is led to by rules, and as few words as possible for a table."""

from lasttouch.bits import AT_START, bit_table_of, fitting_sets, named, table_names
from lasttouch.covers import apart_pairs, chain_word, chains, pairs_of
from lasttouch.programs import joined_names
from lasttouch.tables import check_table
from lasttouch.words import ground_numbers, last_occurrences


def derivation(words, word):
    """Return the lines that lead to word, or None if it has no grounds in words."""
    numbers = ground_numbers(words, word)
    if numbers is None:
        return None
    lines = [("given", numbers[0], 0, 0)]
    length = len(words[numbers[0]])
    # To the word that is there a word is joined for the next name, and all before the last occurrence
    # of this name in it is dropped. What stands behind it are only names that come later in word,
    # and so the last occurrences come to stand in the order that they have in word.
    for number, name in zip(numbers[1:], last_occurrences(word)):
        at = len(lines) - 1
        behind = words[number][::-1].index(name) + 1
        lines.append(("given", number, 0, 0))
        lines.append(("join", at, at + 1, 0))
        lines.append(("tail", at, at + 2, length + len(words[number]) - behind))
        length = length + behind
    lines.append(("last", len(lines) - 1, 0, 0))
    return lines


def fewest(table):
    """Return a list of as few words as possible such that the or of them has this table."""
    check_table(table)
    every = table_names(table)
    bit_table = bit_table_of(table, every)
    fitting = fitting_sets(bit_table[1])
    found = []
    for chain in chains(pairs_of(bit_table)):
        found.append(_named_places(chain_word(_whole_of(chain, every), chain, fitting), every))
    return found


def apart(table):
    """Return a list of just as many pairs, no two of which can belong to one word."""
    check_table(table)
    every = table_names(table)
    found = []
    for place, bits in apart_pairs(pairs_of(bit_table_of(table, every))):
        found.append(("start" if place == AT_START else every[place], named(bits, every)))
    return sorted(found)


def words_both(forward, backward):
    """Return words the or of which has the one table and, if they are read backwards, the other."""
    check_table(forward)
    check_table(backward)
    every = table_names(forward)
    joined_names(every, table_names(backward))
    if forward[0] != backward[0] or every != table_names(backward):
        return None
    bit_table, bit_table_backward = bit_table_of(forward, every), bit_table_of(backward, every)
    fitting, fitting_backward = fitting_sets(bit_table[1]), fitting_sets(bit_table_backward[1])
    found = []
    # Both lists of chains begin with those of the same starts. A word has each of its names twice,
    # at first in an order for reading backwards and then in one for reading forwards. So neither of
    # the two is seen in reading the other way.
    for chain, other in _side_by_side(chains(pairs_of(bit_table)), chains(pairs_of(bit_table_backward))):
        whole = _whole_of(chain, every)
        backwards = chain_word(whole, other, fitting_backward)
        found.append(_named_places(backwards[::-1] + chain_word(whole, chain, fitting), every))
    return found


def _whole_of(chain, every):
    """Return the set of the names of a word with the pairs of the chain: all of them, if it may be."""
    if chain and chain[0][0] == AT_START:
        return chain[0][1]
    return (1 << len(every)) - 1


def _named_places(word, every):
    """Return the word of the names with these places."""
    return tuple([every[place] for place in word])


def _side_by_side(one, other):
    """Return the list of pairs of a chain of the one list and one of the other, the shorter of which
    is filled up with chains of no pairs."""
    many = max(len(one), len(other))
    return list(zip(one + [[]] * (many - len(one)), other + [[]] * (many - len(other))))
