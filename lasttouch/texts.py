"""The texts of programs."""

from lasttouch.errors import InvalidText
from lasttouch.programs import LETTERS, MOST_PARTS, check_program, is_program


def write(program):
    """Return the text of the program."""
    check_program(program)
    return _text(program)


def read(text):
    """Return the program that has this text."""
    # Every parenthesis and every star is there for a part of its own. With more of them than
    # a program has parts, the functions below would call one another too deep.
    if not isinstance(text, str) or text.count("(") + text.count("*") > MOST_PARTS:
        raise InvalidText("not the text of a program")
    program, _ = _read_or(text, 0)
    # The program is only what the text would have to mean: whatever is left over, missing or
    # needless in it shows in its not being the text that is written for this program.
    if not is_program(program) or _text(program) != text:
        raise InvalidText("not the text of a program")
    return program


def _text(program):
    """Return the text of what is known to be a program."""
    kind = program[0]
    if kind == "do":
        return program[1]
    if kind == "skip":
        return "skip"
    if kind == "rep":
        return _text_within(program[1], ("seq", "or")) + "*"
    if kind == "seq":
        return "; ".join([_text_within(member, ("seq", "or")) for member in program[1:]])
    return " | ".join([_text_within(member, ("or",)) for member in program[1:]])


def _text_within(member, wrapped):
    """Return the text of a member, in parentheses if it is of one of the wrapped kinds."""
    if member[0] in wrapped:
        return "(" + _text(member) + ")"
    return _text(member)


def _read_or(text, at):
    """Return the program that begins at this place, and the place behind it."""
    member, at = _read_seq(text, at)
    members = [member]
    while text.startswith(" | ", at):
        member, at = _read_seq(text, at + len(" | "))
        members.append(member)
    return _joined("or", members), at


def _read_seq(text, at):
    """Return the program without a bare or that begins at this place, and the place behind it."""
    member, at = _read_rep(text, at)
    members = [member]
    while text.startswith("; ", at):
        member, at = _read_rep(text, at + len("; "))
        members.append(member)
    return _joined("seq", members), at


def _joined(kind, members):
    """Return the program of this kind with these members; a member alone is the program."""
    if len(members) == 1:
        return members[0]
    return (kind, *members)


def _read_rep(text, at):
    """Return the program with the stars behind it that begins at this place, and the place behind."""
    if text.startswith("(", at):
        program, at = _read_or(text, at + 1)
        at = at + 1
    else:
        program, at = _read_word(text, at)
    while text.startswith("*", at):
        program = ("rep", program)
        at = at + 1
    return program, at


def _read_word(text, at):
    """Return the skip or the do that begins at this place, and the place behind it."""
    behind = at
    while behind < len(text) and text[behind] in LETTERS:
        behind += 1
    if text[at:behind] == "skip":
        return ("skip",), behind
    return ("do", text[at:behind]), behind
