"""Labellings, and whether the fact holds behind words and programs."""

from lasttouch.errors import InvalidLabelling, InvalidStart, Missing
from lasttouch.programs import MOST_NAMES, check_program, check_word, is_ascending, is_name, names

MARKS = ("gen", "kill", "pass")


def is_labelling(value):
    """Return whether the value is a labelling."""
    if not isinstance(value, tuple) or len(value) > MOST_NAMES:
        return False
    return all([_is_marked_name(pair) for pair in value]) and is_ascending([name for name, _ in value])


def check_labelling(labelling):
    """Raise InvalidLabelling if the argument is no labelling."""
    if not is_labelling(labelling):
        raise InvalidLabelling("not a labelling")


def check_start(start):
    """Raise InvalidStart if the argument is no start."""
    if not isinstance(start, bool):
        raise InvalidStart("neither True nor False")


def marks_for(found, labelling):
    """Return the dict of the marks; raise Missing for the first of the found names that has none."""
    marks = {name: mark for name, mark in labelling}
    for name in sorted(found):
        if name not in marks:
            raise Missing(name)
    return marks


def run(word, labelling, start):
    """Return whether the fact holds behind the word."""
    check_word(word)
    check_labelling(labelling)
    check_start(start)
    marks = marks_for(word, labelling)
    for name in reversed(word):
        if marks[name] != "pass":
            return marks[name] == "gen"
    return start


def may(program, labelling, start):
    """Return whether the fact holds behind some word of the program."""
    effects = _checked_effects(program, labelling, start)
    return "gen" in effects or (start and "pass" in effects)


def must(program, labelling, start):
    """Return whether the fact holds behind all words of the program."""
    effects = _checked_effects(program, labelling, start)
    return "kill" not in effects and (start or "pass" not in effects)


def _is_marked_name(value):
    """Return whether the value is a pair of a name and a mark."""
    return isinstance(value, tuple) and len(value) == 2 and is_name(value[0]) and value[1] in MARKS


def _checked_effects(program, labelling, start):
    """Return the effects of the program after the checks of may and must."""
    check_program(program)
    check_labelling(labelling)
    check_start(start)
    return _effects(program, marks_for(names(program), labelling))


def _effects(part, marks):
    """Return the marks that the words of the program have if each word is taken as one action."""
    kind = part[0]
    if kind == "do":
        return [marks[part[1]]]
    if kind == "skip":
        return ["pass"]
    members = [_effects(member, marks) for member in part[1:]]
    if kind == "seq":
        return _effects_in_turn(members)
    found = [mark for effects in members for mark in effects]
    # Of a word only the last action that is not marked pass counts. So doing the program of a
    # rep more than once has no effect that doing it once has not.
    if kind == "rep":
        found.append("pass")
    return [mark for mark in MARKS if mark in found]


def _effects_in_turn(members):
    """Return the effects of doing one after the other, from the effects of each."""
    found = ["pass"]
    for effects in members:
        passed = found if "pass" in effects else []
        found = [mark for mark in MARKS if mark in passed or (mark in effects and mark != "pass")]
    return found
