"""The tables of programs and of words, and what a table tells of the fact."""

from lasttouch.bits import (
    are_least_sets, bit_table_of, bits_of, do_table, fitting_sets, is_in, named_table, or_table, seq_table, skip_table,
    table_names,
)
from lasttouch.errors import InvalidTable
from lasttouch.labels import check_labelling, check_start, marks_for
from lasttouch.programs import MOST_NAMES, check_word, is_ascending, is_name, names

EXCHANGED = {"gen": "kill", "kill": "gen", "pass": "pass"}


def table(program):
    """Return the table of the program."""
    every = names(program)
    return named_table(bit_table(program, every, {}), every)


def bit_table(part, every, called):
    """Return the bit table of what is known to be a program with no other names than these.

    Where procedures may be called in it, called is the dict of their bit tables.
    """
    kind = part[0]
    if kind == "do":
        return do_table(every.index(part[1]), len(every))
    if kind == "skip":
        return skip_table(len(every))
    if kind == "call":
        return called[part[1]]
    found = bit_table(part[1], every, called)
    # If a program is done several times, what stands behind an action contains what stands
    # behind it in one of these times. So a rep has the table of a choice of skip and its program.
    if kind == "rep":
        return or_table(found, skip_table(len(every)))
    for member in part[2:]:
        other = bit_table(member, every, called)
        found = seq_table(found, other) if kind == "seq" else or_table(found, other)
    return found


def word_table(word):
    """Return the table of a program whose only word is this one."""
    check_word(word)
    behind = []
    rows = []
    for name in reversed(word):
        if name not in behind:
            rows.append((name, (tuple(sorted(behind)),)))
            behind.append(name)
    return (tuple(sorted(behind)),), tuple(sorted(rows))


def is_table(value):
    """Return whether the value is the table of a program with at most 6 names."""
    if not isinstance(value, tuple) or len(value) != 2 or not _are_rows(value[1]):
        return False
    starts, rows = value
    every = table_names(value)
    listed = [starts] + [sets for _, sets in rows]
    if not all([are_least_sets(sets, every) for sets in listed]):
        return False
    # That no set of a row contains the name of the row is not asked by itself: such a set would
    # fit only if another set of the row were within it.
    _, bit_rows = bit_table_of(value, every)
    fitting = fitting_sets(bit_rows)
    return all([is_in(bits_of(members, every), fitting) for sets in listed for members in sets])


def check_table(table):
    """Raise InvalidTable if the argument is no table of a program."""
    if not is_table(table):
        raise InvalidTable("not the table of a program")


def may_hold(table, labelling, start):
    """Return what may returns for every program with this table."""
    marks = _checked_marks(table, labelling, start)
    return _may_hold(table, marks, start)


def must_hold(table, labelling, start):
    """Return what must returns for every program with this table."""
    marks = _checked_marks(table, labelling, start)
    return not _may_hold(table, {name: EXCHANGED[mark] for name, mark in marks.items()}, not start)


def _are_rows(value):
    """Return whether the value has the form of the rows of a table, whatever stands for the sets."""
    if not isinstance(value, tuple) or len(value) > MOST_NAMES:
        return False
    if not all([isinstance(row, tuple) and len(row) == 2 and is_name(row[0]) for row in value]):
        return False
    return is_ascending([name for name, _ in value])


def _checked_marks(table, labelling, start):
    """Return the dict of the marks after the checks of may_hold and must_hold."""
    check_table(table)
    check_labelling(labelling)
    check_start(start)
    return marks_for(table_names(table), labelling)


def _may_hold(table, marks, start):
    """Return whether the fact may hold for a table with these marks."""
    starts, rows = table
    if start and _one_passes(starts, marks):
        return True
    return any([marks[name] == "gen" and _one_passes(sets, marks) for name, sets in rows])


def _one_passes(sets, marks):
    """Return whether all names of one of the sets are marked pass."""
    return any([all([marks[name] == "pass" for name in members]) for members in sets])
