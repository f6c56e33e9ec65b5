"""Tests of lasttouch.objects: points [8], [9], [19], [20] and [21]."""

import itertools
import random
import unittest

from lasttouch.equality import equal
from lasttouch.errors import (
    InvalidLabelling, InvalidName, InvalidProgram, InvalidStart, InvalidText, Lost, Missing, NothingToUndo, TooLarge,
)
from lasttouch.labels import may
from lasttouch.objects import Flow, Keeper, Tracker
from lasttouch.programs import names
from lasttouch.tables import table, word_table
from lasttouch.texts import read, write
from tests.by_hand import (
    MARKS, Quick, all_labellings, holds_by_hand, is_name_by_hand, listed_program, not_these, small_programs, table_by_hand,
)
from tests.samples import A, B, NOT_PROGRAMS, SKIP, STRANGE, choice, deep, wide
from tests.test_labels import LABELLING, NOT_LABELLINGS, NOT_STARTS, SIX
from tests.test_tables import EMPTY

NOT_NAMES = not_these(is_name_by_hand, ["A", "", "skip", "start", "end", "abcdefghi", "a ", "a\n", ("a",), ["a"], {"a": 1}])
NOT_TEXTS = [value for value in STRANGE if value not in ("a", "skip")] + [
    "", "a;b", "a ; b", " a", "a ", "(a)", "a | ", "a; (b; c", "A", "start", "a**b", "a\n", ["a"], ("do", "a"), "a" * 9, "(a; b); c; d)",
    " | ".join("abcdefg"), "; ".join("a" * 60), "a" + "*" * 40,
]
NOT_FLOWS = STRANGE + [A, ("do", "a"), "a", read("a; b"), Flow, Tracker(), [Flow(A)], (Flow(A),)]


def parts_by_hand(program):
    """The number of parts of the program."""
    return 1 if program[0] == "do" else 1 + sum(map(parts_by_hand, program[1:]))


def flow_state(flow):
    return flow.program, flow.text, flow.table, len(flow)


class FlowMaking(Quick):
    def test_the_example(self):
        one = Flow.of_text("a; b")
        self.assertEqual((one | one.repeated()).text, "a; b | (a; b)*")
        self.assertIs(one((("a", "gen"), ("b", "pass")), False), True)
        self.assertEqual(len(one), 3)
        self.assertIs(one >> one == one, True)
        self.assertIs(one == Flow.of_text("b; a"), False)

    def test_the_properties(self):
        chance = random.Random(19)
        programs = [program for parts in range(1, 5) for program in small_programs(parts, "ab")]
        programs += [listed_program(chance, parts, "abcdef") for parts in range(5, 14)] + [wide("seq", 60), wide("or", 60), deep(40), SKIP]
        for program in programs:
            for flow in [Flow(program), Flow.of_text(write(program))]:
                self.assertEqual(flow.program, program)
                self.assertEqual(flow.text, write(program))
                self.assertEqual(flow.table, table(program))
                self.assertEqual(len(flow), parts_by_hand(program))
                for name in ["a", "b", "c", "d", "e", "f", "g", "aa"]:
                    self.assertIs(name in flow, name in names(program))
                    self.assertIs(name not in flow, name not in names(program))

    def test_they_are_properties(self):
        flow = Flow(A)
        for name in ["program", "text", "table"]:
            self.assertIsInstance(vars(Flow)[name], property)
            with self.assertRaises(AttributeError):
                setattr(flow, name, None)

    def test_any_value_may_be_asked_for(self):
        flow = Flow.of_text("a; skip; b*")
        for value in STRANGE + NOT_NAMES + [A, flow, Flow]:
            self.assertIs(value in flow, isinstance(value, str) and value in ("a", "b"))

    def test_wrong_arguments(self):
        self.assert_checks(Flow, [(A, NOT_PROGRAMS + [Flow(A)], InvalidProgram)])
        self.assert_checks(Flow.of_text, [("a", NOT_TEXTS, InvalidText)])

    def test_arguments_by_name(self):
        self.assertEqual(Flow(program=A).text, "a")
        self.assertEqual(Flow.of_text(text="a").program, A)


class FlowTogether(Quick):
    def test_or_and_seq(self):
        chance = random.Random(20)
        for _ in range(60):
            p = listed_program(chance, chance.randrange(1, 8), "abc")
            q = listed_program(chance, chance.randrange(1, 8), "cdef")
            one, other = Flow(p), Flow(q)
            self.assertEqual((one | other).program, ("or", p, q))
            self.assertEqual((one >> other).program, ("seq", p, q))
            self.assertEqual(one.repeated().program, ("rep", p))
            self.assertEqual((one.program, other.program), (p, q))
            for told in [one | other, one >> other, one.repeated()]:
                self.assertIs(type(told), Flow)
                self.assertIsNot(told, one)

    def test_in_place(self):
        one = kept = Flow(A)
        one |= Flow(B)
        one >>= Flow(SKIP)
        self.assertEqual(one.text, "(a | b); skip")
        self.assertEqual(kept.text, "a")

    def test_the_bounds_of_parts(self):
        for at in (29, 30, 31):
            one, other = Flow(wide("seq", 59 - at)), Flow(wide("or", at))
            self.assertEqual(len(one | other), 60)
            self.assertEqual(len(one >> other), 60)
            more = Flow(wide("or", at + 1))
            for call in (lambda: one | more, lambda: more | one, lambda: one >> more, lambda: more >> one):
                with self.assertRaises(TooLarge):
                    call()
            self.assertEqual(len(more), at + 1)
        self.assertEqual(len(Flow(wide("seq", 59)).repeated()), 60)
        with self.assertRaises(TooLarge):
            Flow(wide("seq", 60)).repeated()
        with self.assertRaises(TooLarge):
            Flow(wide("seq", 60)) | Flow(wide("seq", 60))

    def test_the_bounds_of_depth(self):
        self.assertEqual(Flow(deep(39)).repeated().program, deep(40))
        with self.assertRaises(TooLarge):
            Flow(deep(40)).repeated()
        for one, other in [(deep(39), A), (A, deep(19))]:
            self.assertEqual((Flow(one) | Flow(other)).program, ("or", one, other))
            self.assertEqual((Flow(one) >> Flow(other)).program, ("seq", one, other))
        for one, other in [(deep(40), A), (A, deep(40))]:
            with self.assertRaises(TooLarge):
                Flow(one) | Flow(other)
            with self.assertRaises(TooLarge):
                Flow(one) >> Flow(other)

    def test_the_bounds_of_names(self):
        self.assertEqual(len(Flow(choice("abc")) | Flow(choice("def"))), 9)
        self.assertEqual(len(Flow(choice("abcdef")) >> Flow(choice("fedcba"))), 15)
        for one, other in [(choice("abcdef"), ("do", "g")), (choice("abc"), choice("defg")), (("do", "aa"), choice("abcdef"))]:
            with self.assertRaises(TooLarge):
                Flow(one) | Flow(other)
            with self.assertRaises(TooLarge):
                Flow(one) >> Flow(other)

    def test_what_is_no_flow(self):
        for flow in [Flow(A), Flow(wide("seq", 60))]:
            state = flow_state(flow)
            for value in NOT_FLOWS:
                self.assert_error(InvalidProgram, lambda other: flow | other, value)
                self.assert_error(InvalidProgram, lambda other: flow >> other, value)
            self.assertEqual(flow_state(flow), state)


class FlowCalled(Quick):
    def test_it_is_may(self):
        for program in [program for parts in range(1, 4) for program in small_programs(parts, "ab")]:
            for labelling, start in itertools.product(all_labellings("ab"), (False, True)):
                self.assertIs(Flow(program)(labelling, start), may(program, labelling, start))

    def test_more_names(self):
        self.assertIs(Flow(A)(SIX, True), True)
        self.assertIs(Flow(SKIP)((), False), False)

    def test_names_that_are_lacking(self):
        for text, labelling, name in [("c; b; a", (("a", "gen"),), "b"), ("a", (), "a"), ("(c | d)*; b", (), "b"), ("b; aa", SIX, "aa")]:
            self.assertEqual(self.assert_error(Missing, Flow.of_text(text), labelling, True).name, name)

    def test_wrong_arguments(self):
        flow = Flow.of_text("a; c")
        self.assert_checks(flow, [(LABELLING, NOT_LABELLINGS, InvalidLabelling), (True, NOT_STARTS, InvalidStart)])
        self.assert_error(InvalidStart, flow, (), None)
        self.assertEqual(flow.text, "a; c")

    def test_arguments_by_name(self):
        self.assertIs(Flow(A)(start=False, labelling=LABELLING), True)


class FlowEqual(Quick):
    def test_equal_as_equal_tells(self):
        programs = [program for parts in range(1, 4) for program in small_programs(parts, "ab")]
        for one, other in itertools.product(programs, repeat=2):
            wanted = equal(one, other, "forward")
            self.assertIs(Flow(one) == Flow(other), wanted)
            self.assertIs(Flow(one) != Flow(other), not wanted)

    def test_with_more_than_six_names_together(self):
        for one, other in [(choice("abcdef"), choice("abcdeg")), (choice("abcdef"), choice("ghijkl")), (A, choice("bcdefg"))]:
            self.assertIs(Flow(one) == Flow(other), False)
            self.assertIs(Flow(one) != Flow(other), True)
        self.assertIs(Flow(choice("abcdef")) == Flow(choice("fedcba")), True)
        self.assertIs(Flow(choice("abcdef")) != Flow(choice("fedcba")), False)

    def test_with_other_values(self):
        flow = Flow(A)
        for value in NOT_FLOWS + [A, write(A), table(A), None, Flow]:
            self.assertIs(flow == value, False)
            self.assertIs(flow != value, True)
            self.assertIs(value == flow, False)
            self.assertIs(value != flow, True)
        self.assertEqual(flow, flow)

    def test_the_largest(self):
        one, other = Flow(wide("seq", 60)), Flow(wide("or", 60))
        self.assertIs(self.assert_quick(lambda: one == other), True)
        self.assertIs(self.assert_quick(lambda: one == Flow(deep(40))), False)
        many = Flow(("seq",) + (choice("abcdef"),) * 8)
        self.assertIs(self.assert_quick(lambda: many == Flow(many.program[:4])), True)


class TrackerActions(Quick):
    def test_the_example(self):
        tracker = Tracker()
        told = [tracker.do(name) for name in ("a", "b", "a", "c", "b")]
        self.assertEqual([told, tracker.behind("a"), tracker.undo(), tracker.behind("b"), len(tracker)],
                         [[None, None, ("b",), None, ("a", "c")], ("b", "c"), "b", ("a", "c"), 4])

    def assert_state(self, tracker, word):
        self.assertEqual(tracker.done, word)
        self.assertEqual(len(tracker), len(word))
        self.assertEqual(tracker.table, table_by_hand([tuple(word)]))
        for name in ["a", "b", "c", "d", "e", "f", "g", "aa"]:
            self.assertEqual(tracker.behind(name), behind_by_hand(word, name))

    def test_nothing_was_done(self):
        tracker = Tracker()
        self.assert_state(tracker, [])
        self.assertEqual(tracker.table, EMPTY)
        self.assertIs(tracker.holds((), True), True)
        self.assertIs(tracker.holds(LABELLING, False), False)
        self.assert_error(NothingToUndo, tracker.undo)

    def assert_rows(self, make, chance, letters):
        """Do drawn actions with the tracker and with a list, and compare."""
        tracker, word = make(), []
        for _ in range(150):
            asked = chance.random()
            name = chance.choice(letters)
            if asked < 0.6:
                wanted = behind_by_hand(word, name)
                if len(word) == 60 or len(set(word) | {name}) > 6:
                    self.assert_error(TooLarge, tracker.do, name)
                else:
                    self.assertEqual(tracker.do(name), wanted)
                    word.append(name)
            elif asked < 0.8 and word:
                self.assertEqual(tracker.undo(), word.pop())
            elif asked < 0.8:
                self.assert_error(NothingToUndo, tracker.undo)
            else:
                labelling = tuple((name, chance.choice(MARKS)) for name in sorted(set(word)))
                for start in (False, True):
                    self.assertIs(tracker.holds(labelling, start), holds_by_hand(word, labelling, start))
            self.assert_state(tracker, word)

    def test_drawn_rows(self):
        chance = random.Random(20)
        for letters in ["a", "ab", "abc", "abcdef", "abcdefg", ["a", "aa", "aaa", "b"], "abcdefghij"]:
            self.assert_rows(Tracker, chance, letters)

    def test_the_61st_action(self):
        tracker = Tracker()
        for at in range(60):
            self.assertEqual(tracker.do("a"), () if at else None)
        self.assert_error(TooLarge, tracker.do, "a")
        self.assert_error(TooLarge, tracker.do, "b")
        self.assert_state(tracker, ["a"] * 60)
        self.assertEqual(tracker.undo(), "a")
        self.assertIsNone(tracker.do("b"))
        self.assert_error(TooLarge, tracker.do, "b")
        self.assert_state(tracker, ["a"] * 59 + ["b"])

    def test_the_seventh_name(self):
        tracker = Tracker()
        for name in "abcdef":
            tracker.do(name)
        self.assert_error(TooLarge, tracker.do, "g")
        self.assert_state(tracker, list("abcdef"))
        self.assertEqual(tracker.do("a"), tuple("bcdef"))
        self.assert_error(TooLarge, tracker.do, "g")
        self.assertEqual([tracker.undo(), tracker.undo()], ["a", "f"])
        self.assertIsNone(tracker.do("g"))
        self.assert_error(TooLarge, tracker.do, "f")
        self.assert_state(tracker, list("abcdeg"))
        # A name stays as long as it stands elsewhere in what was done.
        tracker.undo()
        tracker.do("a")
        self.assertEqual(tracker.undo(), "a")
        tracker.do("h")
        self.assert_error(TooLarge, tracker.do, "g")

    def test_taken_back(self):
        tracker = Tracker()
        for name in "abab":
            tracker.do(name)
        self.assertEqual([tracker.undo() for _ in range(4)], list("baba"))
        self.assert_error(NothingToUndo, tracker.undo)
        self.assert_state(tracker, [])
        self.assertIsNone(tracker.do("a"))

    def test_two_side_by_side(self):
        one, other = Tracker(), Tracker()
        one.do("a")
        other.do("b")
        one.do("c")
        self.assert_state(one, ["a", "c"])
        self.assert_state(other, ["b"])
        self.assertEqual(one.undo(), "c")
        self.assert_state(other, ["b"])

    def test_the_lists_are_new_ones(self):
        tracker = Tracker()
        tracker.do("a")
        told = tracker.done
        told.append("b")
        tracker.done.clear()
        self.assert_state(tracker, ["a"])
        tracker.do("c")
        self.assertEqual(told, ["a", "b"])

    def test_nothing_changes_where_an_error_is_raised(self):
        tracker = Tracker()
        for name in "abcdef":
            tracker.do(name)
        for call, args, error in [
            (tracker.do, ("g",), TooLarge), (tracker.do, ("A",), InvalidName), (tracker.behind, (None,), InvalidName),
            (tracker.holds, ((), True), Missing), (tracker.holds, (None, True), InvalidLabelling), (tracker.holds, (SIX, 0), InvalidStart),
        ]:
            self.assert_error(error, call, *args)
            self.assert_state(tracker, list("abcdef"))

    def test_names_that_the_labelling_lacks(self):
        tracker = Tracker()
        for name in ["c", "b", "d", "b"]:
            tracker.do(name)
        self.assertEqual(self.assert_error(Missing, tracker.holds, (("a", "gen"), ("c", "kill")), True).name, "b")
        self.assertEqual(self.assert_error(Missing, tracker.holds, LABELLING, True).name, "d")
        tracker.undo()
        tracker.undo()
        self.assertIs(tracker.holds(LABELLING, True), False)

    def test_it_cannot_be_set(self):
        for name in ["done", "table"]:
            with self.assertRaises(AttributeError):
                setattr(Tracker(), name, None)

    def test_wrong_arguments(self):
        tracker = Tracker()
        tracker.do("c")
        for call in (tracker.do, tracker.behind):
            self.assert_checks(call, [("a", NOT_NAMES, InvalidName)])
        self.assert_checks(tracker.holds, [(LABELLING, NOT_LABELLINGS, InvalidLabelling), (True, NOT_STARTS, InvalidStart)])
        self.assert_error(InvalidStart, tracker.holds, (), None)
        self.assertEqual(tracker.done, ["c"])

    def test_arguments_by_name(self):
        tracker = Tracker()
        self.assertIsNone(tracker.do(name="a"))
        self.assertEqual(tracker.behind(name="a"), ())
        self.assertIs(tracker.holds(start=False, labelling=LABELLING), True)

    def test_the_longest(self):
        tracker = Tracker()
        for at in range(60):
            self.assert_quick(tracker.do, "abcdef"[at % 6])
        self.assertEqual(self.assert_quick(tracker.behind, "a"), tuple("bcdef"))
        self.assertEqual(self.assert_quick(lambda: tracker.table), word_table(tuple("abcdef") * 10))
        self.assertIs(self.assert_quick(tracker.holds, SIX, True), True)


def behind_by_hand(word, name):
    """The set of the names behind the last occurrence, or None."""
    if name not in word:
        return None
    found = []
    for other in reversed(word):
        if other == name:
            return tuple(sorted(set(found)))
        found.append(other)


class KeeperActions(Quick):
    def test_the_example(self):
        keeper = Keeper((("a", "gen"), ("b", "kill")), False)
        self.assertEqual([keeper.do("b"), keeper.fact, keeper.do("a"), keeper.fact, len(keeper)], [None, False, None, True, 2])
        self.assertEqual(self.assert_error(Lost, keeper.do, "b").name, "b")
        self.assertEqual(keeper.done, ["b", "a"])

    def test_it_is_a_tracker(self):
        keeper = Keeper((("a", "gen"), ("b", "kill"), ("c", "pass")), False)
        self.assertIsInstance(keeper, Tracker)
        self.assertEqual([keeper.do(name) for name in "bcbca"], [None, None, ("c",), ("b",), None])
        self.assertEqual(keeper.done, list("bcbca"))
        self.assertEqual(keeper.behind("b"), ("a", "c"))
        self.assertIsNone(keeper.behind("d"))
        self.assertEqual(keeper.table, word_table(tuple("bcbca")))
        self.assertEqual(len(keeper), 5)
        self.assertIs(keeper.holds((("a", "kill"), ("b", "gen"), ("c", "pass")), False), False)
        self.assertEqual(self.assert_error(Missing, keeper.holds, (("a", "gen"),), False).name, "b")
        self.assertEqual([keeper.undo() for _ in range(5)], list("acbcb"))
        self.assert_error(NothingToUndo, keeper.undo)

    def test_drawn_rows(self):
        chance = random.Random(21)
        counts = {Lost: 0, Missing: 0, TooLarge: 0, None: 0}
        for letters in ["ab", "abc", "abcd", "abcdef", ["a", "aa", "aaa", "b"]] * 8:
            labelling = tuple((name, chance.choice(MARKS)) for name in sorted(letters))
            start = chance.choice([False, True])
            keeper, word = Keeper(labelling, start), []
            for _ in range(200):
                name = chance.choice([*letters, "abcdefgh"])
                if chance.random() < 0.2 and word:
                    self.assertEqual(keeper.undo(), word.pop())
                else:
                    fact, marks = holds_by_hand(word, labelling, start), dict(labelling)
                    error = None
                    if name not in marks:
                        error = Missing
                    elif len(word) == 60:
                        error = TooLarge
                    elif fact and not holds_by_hand([*word, name], labelling, start):
                        error = Lost
                    counts[error] += 1
                    if error is None:
                        self.assertEqual(keeper.do(name), behind_by_hand(word, name))
                        word.append(name)
                    else:
                        told = self.assert_error(error, keeper.do, name)
                        self.assertEqual(getattr(told, "name", name), name)
                self.assertEqual(keeper.done, word)
                self.assertIs(keeper.fact, holds_by_hand(word, labelling, start))
                self.assertIs(keeper.holds(labelling, start), keeper.fact)
        self.assertTrue(all(count > 20 for count in counts.values()), counts)

    def test_the_order_of_the_errors(self):
        labelling = tuple((name, "gen" if name == "a" else "kill" if name == "b" else "pass") for name in "abcdef")
        keeper = Keeper(labelling, True)
        for _ in range(60):
            keeper.do("a")
        self.assertEqual(self.assert_error(Missing, keeper.do, "g").name, "g")
        self.assert_error(InvalidName, keeper.do, "G")
        self.assert_error(TooLarge, keeper.do, "b")
        self.assert_error(TooLarge, keeper.do, "a")
        self.assertEqual(keeper.undo(), "a")
        self.assertEqual(self.assert_error(Lost, keeper.do, "b").name, "b")
        self.assertEqual(self.assert_error(Missing, keeper.do, "g").name, "g")
        self.assertEqual(keeper.done, ["a"] * 59)

    def test_the_very_object(self):
        keeper = Keeper((("a", "kill"),), True)
        for name, error in [("".join(["a"]), Lost), ("".join(["b", "c"]), Missing)]:
            self.assertIs(self.assert_error(error, keeper.do, name).name, name)

    def test_the_fact_behind_undo(self):
        keeper = Keeper((("a", "gen"), ("b", "kill"), ("c", "pass")), False)
        facts = []
        for name in "bcacc":
            keeper.do(name)
            facts.append(keeper.fact)
        self.assertEqual(facts, [False, False, True, True, True])
        told = []
        while keeper.done:
            told.append(keeper.fact)
            keeper.undo()
        self.assertEqual(told[::-1], facts)
        self.assertIs(keeper.fact, False)
        keeper.do("a")
        self.assert_error(Lost, keeper.do, "b")
        keeper.undo()
        self.assertIsNone(keeper.do("b"))

    def test_the_fact_at_the_start(self):
        self.assertIs(Keeper((), True).fact, True)
        self.assertIs(Keeper((), False).fact, False)
        keeper = Keeper((("a", "pass"), ("b", "kill")), True)
        self.assert_error(Lost, keeper.do, "b")
        keeper.do("a")
        self.assert_error(Lost, keeper.do, "b")
        self.assertEqual(self.assert_error(Missing, Keeper((), True).do, "a").name, "a")

    def test_it_cannot_be_set(self):
        for name in ["done", "table", "fact"]:
            with self.assertRaises(AttributeError):
                setattr(Keeper((), True), name, None)

    def test_two_side_by_side(self):
        one, other = Keeper(LABELLING, True), Keeper(LABELLING, False)
        other.do("b")
        one.do("a")
        self.assertEqual([one.done, other.done, one.fact, other.fact], [["a"], ["b"], True, False])

    def test_wrong_arguments(self):
        self.assert_checks(Keeper, [(LABELLING, NOT_LABELLINGS, InvalidLabelling), (True, NOT_STARTS, InvalidStart)])
        keeper = Keeper(SIX, True)
        for call in (keeper.do, keeper.behind):
            self.assert_checks(call, [("a", NOT_NAMES, InvalidName)])
        self.assert_checks(keeper.holds, [(SIX, NOT_LABELLINGS, InvalidLabelling), (True, NOT_STARTS, InvalidStart)])
        self.assertEqual(keeper.done, [])

    def test_arguments_by_name(self):
        keeper = Keeper(start=False, labelling=LABELLING)
        self.assertIsNone(keeper.do(name="b"))
        self.assertEqual(keeper.behind(name="b"), ())


if __name__ == "__main__":
    unittest.main()
