"""Books of procedures that call one another, and programs that are put into programs."""

from lasttouch.bits import NO_SETS, named_table, no_words_table
from lasttouch.errors import InvalidBook, InvalidName, InvalidNumber, TooLarge
from lasttouch.programs import (
    MOST_NAMES, check_name, check_program, is_ascending, is_integer, is_name, is_program, joined_names, names, names_in,
    parts_of,
)
from lasttouch.tables import bit_table
from lasttouch.words import program_of

MOST_PROCEDURES = 6
DEEPEST_CALLS = 40


def is_book(value):
    """Return whether the value is a book."""
    if not isinstance(value, tuple) or not 1 <= len(value) <= MOST_PROCEDURES:
        return False
    if not all([isinstance(pair, tuple) and len(pair) == 2 and is_name(pair[0]) for pair in value]):
        return False
    if not is_ascending([name for name, _ in value]):
        return False
    bodies = _parts_of_bodies(value)
    return all([parts is not None for parts in bodies]) and len(_names_in_bodies(bodies)) <= MOST_NAMES


def book_table(book, name):
    """Return the table of the procedure, or None if it has no words."""
    # For n procedures the tables stay the same from a depth of 2n on.
    return table_within(book, name, DEEPEST_CALLS)


def table_within(book, name, depth):
    """Return the table of the words of the procedure for which at most depth bodies are done within
    one another, or None if there are none."""
    _check_procedure(book, name)
    if not is_integer(depth, 1, DEEPEST_CALLS):
        raise InvalidNumber("depth is not an integer from 1 to 40")
    every = _names_in_bodies(_parts_of_bodies(book))
    found = {procedure: no_words_table(len(every)) for procedure, _ in book}
    for _ in range(depth):
        inner = found
        found = {procedure: bit_table(body, every, inner) for procedure, body in book}
        if found == inner:
            break
    return None if found[name][0] == NO_SETS else named_table(found[name], every)


def without_calls(book, name):
    """Return a program with the table of the procedure, or None if it has no words."""
    found = book_table(book, name)
    return None if found is None else program_of(found)


def put_in(program, name, other):
    """Return the program with other in the place of every action of this name."""
    check_program(program)
    check_name(name)
    check_program(other)
    joined_names(names(program), names(other))
    found = _with_other(program, name, other)
    if not is_program(found):
        raise TooLarge("this would be no program")
    return found


def _check_procedure(book, name):
    """Raise InvalidBook if the one is no book, and InvalidName if the other is no name of the book."""
    if not is_book(book):
        raise InvalidBook("not a book")
    if name not in [procedure for procedure, _ in book]:
        raise InvalidName("not a name of the book")


def _parts_of_bodies(book):
    """Return for each pair of a name and a body the parts of the body, or None if it is none."""
    procedures = [name for name, _ in book]
    return [parts_of(body, procedures) for _, body in book]


def _names_in_bodies(bodies):
    """Return the set of the names of the actions among the parts of the bodies."""
    return names_in([part for parts in bodies for part in parts])


def _with_other(part, name, other):
    """Return the part of a program with other in the place of every action of this name."""
    if part[0] == "do":
        return other if part[1] == name else part
    return (part[0], *[_with_other(member, name, other) for member in part[1:]])
