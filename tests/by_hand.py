"""What the tests work out themselves, straight from the definitions, and how they ask."""

import itertools
import re
import time
import unittest

from tests.samples import SKIP, STRANGE

MARKS = ("gen", "kill", "pass")


def what_may_change(value):
    """The lists and dicts within the value, each with a copy of it."""
    found, seen, waiting = [], set(), [value]
    while waiting:
        part = waiting.pop()
        if not isinstance(part, (tuple, list, dict)) or id(part) in seen:
            continue
        seen.add(id(part))
        if not isinstance(part, tuple):
            found.append((part, part.copy()))
        waiting.extend([*part, *part.values()] if isinstance(part, dict) else part)
    return found


class Quick(unittest.TestCase):
    def assert_quick(self, call, *args):
        """Return what the call returns; it has to end soon and to leave its arguments alone."""
        kept = what_may_change(args)
        began = time.perf_counter()
        try:
            return call(*args)
        finally:
            self.assertLess(time.perf_counter() - began, 2)
            self.assertEqual([value for value, _ in kept], [same for _, same in kept])

    def assert_error(self, error, call, *args):
        """The call raises exactly this error; return it."""
        with self.subTest(repr(args)[:200]), self.assertRaises(error) as caught:
            self.assert_quick(call, *args)
        self.assertIs(type(caught.exception), error)
        return caught.exception

    def assert_checks(self, call, places):
        """The first wrong argument is told, whatever the later ones are.

        A place is a tuple of a right argument, a list of wrong ones and the error for them.
        """
        for at, (_, wrong, error) in enumerate(places):
            before = [right for right, _, _ in places[:at]]
            later = [(right, others[0], others[-1]) for right, others, _ in places[at + 1:]]
            for rest in itertools.product(*later):
                self.assert_error(error, call, *before, wrong[0], *rest)
            for value in wrong:
                self.assert_error(error, call, *before, value, *[right for right, _, _ in places[at + 1:]])
                self.assert_error(error, call, *before, value, *[others[-1] for _, others, _ in places[at + 1:]])


def small_programs(parts, letters):
    """All programs with exactly so many parts and such names."""
    if parts == 1:
        return [SKIP] + [("do", letter) for letter in letters]
    found = [("rep", inner) for inner in small_programs(parts - 1, letters)]
    for kind in ("seq", "or"):
        found += [(kind,) + members for members in small_members(parts - 1, letters, parts - 2)]
    return found


def small_members(parts, letters, most):
    """All tuples of programs with so many parts together, none with more than most."""
    if parts == 0:
        return [()]
    found = []
    for first in range(1, min(parts, most) + 1):
        for program in small_programs(first, letters):
            found += [(program,) + rest for rest in small_members(parts - first, letters, most)]
    return found


def words_by_hand(program, longest):
    """The set of the words, made from the words of the parts."""
    kind = program[0]
    if kind == "do":
        return {(program[1],)} if longest else set()
    if kind == "skip":
        return {()}
    members = [words_by_hand(member, longest) for member in program[1:]]
    if kind == "or":
        return set().union(*members)
    found = {()}
    if kind == "seq":
        for member in members:
            found = {one + two for one in found for two in member if len(one + two) <= longest}
        return found
    for _ in range(longest):
        found |= {one + two for one in found for two in members[0] if len(one + two) <= longest}
    return found


def random_program(random, parts, letters):
    """A program with exactly so many parts and such names."""
    if parts == 1:
        return random.choice([SKIP] + [("do", letter) for letter in letters] * 2)
    if parts == 2 or random.random() < 0.2:
        return ("rep", random_program(random, parts - 1, letters))
    sizes = [1, 1]
    for _ in range(parts - 3):
        at = random.randrange(len(sizes) + 1)
        if at == len(sizes):
            sizes.append(1)
        else:
            sizes[at] += 1
    return (random.choice(["seq", "or"]),) + tuple(random_program(random, size, letters) for size in sizes)


def actions_in(program):
    """How many actions stand in the program."""
    return 1 if program[0] == "do" else sum(map(actions_in, program[1:]))


def listed_program(random, parts, letters):
    """A program with exactly so many parts and such names whose words with at most 6 actions are not too many.

    It has at most 6 actions, so these words are all that it can do if no rep is done more than once.
    """
    while True:
        program = random_program(random, parts, letters)
        if actions_in(program) <= 6 and len(words_by_hand(program, 6)) <= 2000:
            return program


def is_name_by_hand(value):
    """Whether the value is a name."""
    return isinstance(value, str) and bool(re.fullmatch("[a-z]{1,8}", value)) and value not in ("skip", "start", "end")


def is_set_by_hand(value):
    """Whether the value is a set."""
    return isinstance(value, tuple) and all(map(is_name_by_hand, value)) and sorted(set(value)) == list(value)


def is_word_by_hand(value):
    """Whether the value is a word that may be an argument."""
    return (isinstance(value, tuple) and all(map(is_name_by_hand, value))
            and len(value) <= 60 and len(set(value)) <= 6)


def is_labelling_by_hand(value):
    """Whether the value is a labelling."""
    if not isinstance(value, tuple) or not all(isinstance(pair, tuple) and len(pair) == 2 for pair in value):
        return False
    if not all(isinstance(mark, str) and mark in MARKS for _, mark in value):
        return False
    return len(value) <= 6 and is_set_by_hand(tuple(name for name, _ in value))


def all_labellings(names):
    """All labellings of these names."""
    return [tuple(zip(names, marks)) for marks in itertools.product(MARKS, repeat=len(names))]


def holds_by_hand(word, labelling, start):
    """Whether the fact holds behind the word, by doing one action after the other."""
    marks = dict(labelling)
    fact = start
    for name in word:
        fact = {"gen": True, "kill": False, "pass": fact}[marks[name]]
    return fact


def all_sets(names):
    """All sets of some of these names."""
    return sorted(members for many in range(len(names) + 1) for members in itertools.combinations(sorted(names), many))


def least_by_hand(sets):
    """The least of the sets, in ascending order."""
    least = [one for one in set(sets) if not any(set(other) < set(one) for other in sets)]
    return tuple(sorted(least))


def table_by_hand(words):
    """The table of a program with these words."""
    wholes = [tuple(sorted(set(word))) for word in words]
    rows = {}
    for word in words:
        for at, name in enumerate(word):
            if name not in word[at + 1:]:
                rows.setdefault(name, []).append(tuple(sorted(set(word[at + 1:]))))
    return least_by_hand(wholes), tuple(sorted((name, least_by_hand(sets)) for name, sets in rows.items()))


def orders_by_hand(table, names):
    """All orders in which the set fits to the table, in ascending order."""
    rows = dict(table[1])
    found = []
    for word in itertools.permutations(sorted(names)):
        if all(any(set(members) <= set(word[at + 1:]) for members in rows.get(name, ()))
               for at, name in enumerate(word)):
            found.append(word)
    return found


def antichains(sets):
    """All tuples of one or more of the sets, which ascend, of which none contains another one."""
    found = [()]
    for members in sets:
        found += [chosen + (members,) for chosen in found
                  if not any(set(members) <= set(other) or set(other) <= set(members) for other in chosen)]
    return found[1:]


def table_forms(names):
    """All tuples (starts, rows) as they are for tables, with rows for just these names, but for what fits."""
    rows = []
    for name in names:
        rows.append([(name, sets) for sets in antichains(all_sets(set(names) - {name}))])
    return [(starts, chosen) for starts in antichains(all_sets(names)) for chosen in itertools.product(*rows)]


def is_table_by_hand(form):
    """Whether one of these tuples is a table: whether all its sets fit."""
    listed = [form[0]] + [sets for _, sets in form[1]]
    return all(orders_by_hand(form, members) for sets in listed for members in sets)


def all_tables(names):
    """All tables with rows for some of these names, in ascending order."""
    return sorted(form for chosen in all_sets(names) for form in table_forms(chosen) if is_table_by_hand(form))


def is_family_by_hand(sets):
    """Whether sets of a few names are a family, in whatever order they stand."""
    known = {frozenset(members) for members in sets}
    if frozenset() not in known or any(one | other not in known for one in known for other in known):
        return False
    return all(not one or any(one - {name} in known for name in one) for one in known)


def all_families(names):
    """All families whose names together are exactly these, in ascending order."""
    sets = all_sets(names)
    found = []
    for bits in range(1, 1 << len(sets)):
        chosen = tuple(members for at, members in enumerate(sets) if bits & 1 << at)
        if {name for members in chosen for name in members} == set(names) and is_family_by_hand(chosen):
            found.append(chosen)
    return sorted(found)


def families_of(names):
    """All families whose names together are exactly these, for up to four names, each with its sets in
    ascending order: begin with the whole set and the empty one, and put sets in between."""
    full = tuple(sorted(names))
    found, waiting = set(), [frozenset({()})]
    while waiting:
        family = waiting.pop()
        if family in found:
            continue
        found.add(family)
        for one in family:
            for name in set(full) - set(one):
                new = set(one) | {name}
                waiting.append(family | {tuple(sorted(new | set(other))) for other in family})
    return sorted(tuple(sorted(family)) for family in found if full in family)


def last_by_hand(word):
    """What is left of the word if only the last occurrence of every name is kept."""
    return tuple(name for at, name in enumerate(word) if name not in word[at + 1:])


def sets_in(table):
    """How many sets starts and all rows have together."""
    return len(table[0]) + sum(len(sets) for _, sets in table[1])


def below_by_hand(one, other):
    """Whether a program with the one table is below one with the other: whether every set of the one
    contains a set of the other."""
    rows = dict(other[1])
    pairs = [(one[0], other[0])] + [(sets, rows.get(name, ())) for name, sets in one[1]]
    return all(any(set(there) <= set(here) for there in wanted) for sets, wanted in pairs for here in sets)


def draw_tables(random, many, letters):
    """So many tables over these names, of lists of words that become longer and longer."""
    found = []
    for at in range(many):
        words = [tuple(random.choices(letters, k=random.randrange(9))) for _ in range(at // 4 + 1)]
        if at % 2:
            words = [word + tuple(random.sample(letters, random.randrange(1, len(letters)))) for word in words]
        found.append(table_by_hand(words))
    return found


def not_these(accepted, more=()):
    """All strange values that are not accepted, and some more."""
    return [value for value in STRANGE if not accepted(value)] + list(more)
