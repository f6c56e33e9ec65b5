"""Programs and words that belong to a table, and words that are seen or not seen beside others."""

from lasttouch.bits import AT_START, bit_table_of, fitting_sets, table_names
from lasttouch.covers import chain_word, chains, pairs_of, with_name
from lasttouch.errors import InvalidWords, TooLarge
from lasttouch.programs import MOST_NAMES, check_word, is_program, is_word, joined_names
from lasttouch.tables import check_table

MOST_WORDS = 60


def program_of(table):
    """Return a program with this table."""
    check_table(table)
    every = table_names(table)
    bit_table = bit_table_of(table, every)
    fitting = fitting_sets(bit_table[1])
    found = chains(pairs_of(bit_table))
    heads = [_chain_program(chain, every, fitting) for chain in found if chain[0][0] == AT_START]
    tails = [_chain_program(chain, every, fitting) for chain in found if chain[0][0] != AT_START]
    program = heads[0] if len(heads) == 1 else ("or", *heads)
    # The whole sets of the heads are the starts. The tails make up the rows, and since skip can be
    # done instead of them, the starts stay the same.
    if tails:
        behind = ("or", ("skip",), *tails)
        program = behind if program == ("skip",) else ("seq", program, behind)
    if not is_program(program):
        raise TooLarge("the program would have more than 60 parts")
    return program


def grounds(words, word):
    """Return the words because of which word can be added to words without being seen, or None."""
    found = ground_numbers(words, word)
    if found is None:
        return None
    return [words[number] for number in found]


def shortened(words):
    """Return the words that remain if each one that the others give grounds for is left out."""
    every = checked_names(words)
    known = [after_sets(word, every) for word in words]
    left = list(range(len(words)))
    for number in reversed(range(len(words))):
        others = [other for other in left if other != number]
        if others and _first_within([known[other] for other in others], known[number]) is not None:
            left = others
    return [last_occurrences(words[number]) for number in left]


def ground_numbers(words, word):
    """Return the numbers of the words that grounds returns, or None, after the checks of grounds."""
    found = checked_names(words)
    check_word(word)
    every = joined_names(found, word)
    return _first_within([after_sets(other, every) for other in words], after_sets(word, every))


def checked_names(words):
    """Return the set of the names in the words; raise InvalidWords if they are no list as for grounds."""
    if not isinstance(words, list) or not 1 <= len(words) <= MOST_WORDS or not all([is_word(word) for word in words]):
        raise InvalidWords("not a list of 1 to 60 words")
    found = tuple(sorted({name for word in words for name in word}))
    if len(found) > MOST_NAMES:
        raise InvalidWords("more than 6 different names")
    return found


def last_occurrences(word):
    """Return the word with only the last occurrence of every name kept."""
    return tuple([name for at, name in enumerate(word) if name not in word[at + 1:]])


def after_sets(word, every):
    """Return the bits of the whole set of the word, and the dict of those of its after-sets with
    the names in the order of their last occurrences, the last one first."""
    behind = 0
    rows = {}
    for name in reversed(word):
        if name not in rows:
            rows[name] = behind
            behind = behind | (1 << every.index(name))
    return behind, rows


def _chain_program(chain, every, fitting):
    """Return the program of a word with the pairs of the chain and no names but those in them."""
    actions = [("do", every[place]) for place in chain_word(with_name(chain[0]), chain, fitting)]
    if not actions:
        return ("skip",)
    return actions[0] if len(actions) == 1 else ("seq", *actions)


def _first_within(known, own):
    """Return the numbers of the first after-sets within those of a word that are known, first for
    its whole set and then for each of its names; or None if there is none for one of them."""
    whole, rows = own
    told = [[_is_within(other[0], whole) for other in known]]
    for name in reversed(list(rows)):
        told.append([name in other[1] and _is_within(other[1][name], rows[name]) for other in known])
    if not all([True in each for each in told]):
        return None
    return [each.index(True) for each in told]


def _is_within(bits, other):
    """Return whether the other set contains this one."""
    return (bits | other) == other
