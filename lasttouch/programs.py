"""Programs, their names and their words."""

from lasttouch.errors import InvalidName, InvalidNames, InvalidNumber, InvalidProgram, InvalidWord, TooLarge

LETTERS = "abcdefghijklmnopqrstuvwxyz"
NOT_NAMES = ("skip", "start", "end")
LONGEST_NAME = 8
MOST_PARTS = 60
MOST_NAMES = 6
DEEPEST = 40
LONGEST_LISTED = 6
MOST_WORDS = 2000
LONGEST_WORD = 60

# States of a program under way are kept as the bits of an integer; the end is state 0.
END = 0
END_BIT = 1


def is_name(value):
    """Return whether the value is a name."""
    if not isinstance(value, str) or not 1 <= len(value) <= LONGEST_NAME or value in NOT_NAMES:
        return False
    return all([sign in LETTERS for sign in value])


def check_name(value):
    """Raise InvalidName if the argument is no name."""
    if not is_name(value):
        raise InvalidName("not a name")


def is_integer(value, low, high):
    """Return whether the value is an integer from low to high."""
    return isinstance(value, int) and not isinstance(value, bool) and low <= value <= high


def is_ascending(values):
    """Return whether the values, which can be compared, are strictly ascending."""
    return all([first < second for first, second in zip(values, values[1:])])


def is_set(value):
    """Return whether the value is a set of names."""
    return isinstance(value, tuple) and all([is_name(name) for name in value]) and is_ascending(value)


def check_set(value):
    """Raise InvalidNames if the argument is no set of names."""
    if not is_set(value):
        raise InvalidNames("not a set of names")


def is_word(value):
    """Return whether the value is a word that may be an argument."""
    if not isinstance(value, tuple) or len(value) > LONGEST_WORD:
        return False
    return all([is_name(name) for name in value]) and len(set(value)) <= MOST_NAMES


def check_word(value):
    """Raise InvalidWord if the argument is no word."""
    if not is_word(value):
        raise InvalidWord("not a word")


def joined_names(one, other):
    """Return the set of the names of both sets; raise TooLarge if there are more than 6."""
    joined = tuple(sorted(set(one) | set(other)))
    if len(joined) > MOST_NAMES:
        raise TooLarge("more than 6 different names together")
    return joined


def parts_of(value, procedures):
    """Return the list of the parts of a program in which these procedures may be called.

    The number of different names is not looked at. For what else is no such program return None.
    """
    waiting = [(value, 1)]
    found = []
    while waiting:
        part, depth = waiting.pop()
        found.append(part)
        if len(found) > MOST_PARTS or depth > DEEPEST or not _is_part(part, procedures):
            return None
        for member in _members(part):
            waiting.append((member, depth + 1))
    return found


def names_in(parts):
    """Return the set of the names of the actions among the parts."""
    return tuple(sorted({part[1] for part in parts if part[0] == "do"}))


def is_program(value):
    """Return whether the value is a program."""
    parts = parts_of(value, ())
    return parts is not None and len(names_in(parts)) <= MOST_NAMES


def check_program(program):
    """Raise InvalidProgram if the argument is no program."""
    if not is_program(program):
        raise InvalidProgram("not a program")


def names(program):
    """Return the set of the names of the program."""
    check_program(program)
    return names_in(parts_of(program, ()))


def reverse(program):
    """Return the program with the members of every seq in the opposite order."""
    check_program(program)
    return _reversed_part(program)


def words(program, longest):
    """Return the list of the words with at most longest actions, shorter ones first."""
    check_program(program)
    if not is_integer(longest, 0, LONGEST_LISTED):
        raise InvalidNumber("longest is not an integer from 0 to 6")
    states = [("", [])]
    first = _add_states(program, END, states)
    moves = _moves(states)
    # With 6 names there are only 55,987 words of at most 6 actions. So it does no harm to go
    # through all beginnings, even if they lead to no word that is short enough.
    layer = [((), _reached(first, states))]
    found = [word for word, bits in layer if bits & END_BIT]
    for _ in range(longest):
        layer = _longer(layer, moves)
        found.extend([word for word, bits in layer if bits & END_BIT])
    if len(found) > MOST_WORDS:
        raise TooLarge("more than 2000 words")
    return found


def _is_part(value, procedures):
    """Return whether the value has the form of a program, whatever its members are."""
    if not isinstance(value, tuple) or len(value) == 0:
        return False
    kind = value[0]
    if kind == "do":
        return len(value) == 2 and is_name(value[1])
    if kind == "skip":
        return len(value) == 1
    if kind == "rep":
        return len(value) == 2
    if kind == "call":
        return len(value) == 2 and value[1] in procedures
    return kind in ("seq", "or") and len(value) > 2


def _members(part):
    """Return the programs directly in this one."""
    if part[0] in ("do", "call"):
        return ()
    return part[1:]


def _reversed_part(part):
    """Return the program with every seq turned round."""
    if part[0] == "do":
        return part
    members = [_reversed_part(member) for member in part[1:]]
    if part[0] == "seq":
        members = members[::-1]
    return (part[0], *members)


def _add_states(part, end, states):
    """Add the states in which the program is done and that lead on to end; return the first one.

    A state is a pair of a name, or of "" where nothing is done, and the list of the next states.
    """
    kind = part[0]
    if kind == "skip":
        return end
    if kind == "seq":
        behind = end
        for member in reversed(part[1:]):
            behind = _add_states(member, behind, states)
        return behind
    new = len(states)
    if kind == "do":
        states.append((part[1], [end]))
        return new
    # The state stands there before its members do because a rep comes back to it.
    nexts = []
    states.append(("", nexts))
    for member in part[1:]:
        nexts.append(_add_states(member, new if kind == "rep" else end, states))
    if kind == "rep":
        nexts.append(end)
    return new


def _reached(first, states):
    """Return the bits of the end and the states with an action, reached from first without one."""
    bits = 0
    waiting = [first]
    seen = {first}
    while waiting:
        state = waiting.pop()
        name, nexts = states[state]
        if name or state == END:
            bits = bits | (1 << state)
            continue
        for other in nexts:
            if other not in seen:
                seen.add(other)
                waiting.append(other)
    return bits


def _moves(states):
    """Return the triples of a name, the bit of its state and the bits reached behind it."""
    found = []
    for state, (name, nexts) in enumerate(states):
        if name:
            found.append((name, 1 << state, _reached(nexts[0], states)))
    return sorted(found)


def _longer(layer, moves):
    """Return the words of the layer with one more action, in ascending order."""
    found = []
    for word, bits in layer:
        reached = {}
        for name, bit, behind in moves:
            if bits & bit:
                reached[name] = reached.get(name, 0) | behind
        for name, behind in reached.items():
            found.append(((*word, name), behind))
    return found
