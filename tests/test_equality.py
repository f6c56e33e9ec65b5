"""Tests of lasttouch.equality: points [6], [8], [9] and [14]."""

import itertools
import random
import unittest

from lasttouch.equality import below, difference, equal, exchange, idle_before, idle_behind
from lasttouch.errors import InvalidProgram, InvalidSight, TooLarge
from lasttouch.labels import may
from lasttouch.programs import is_program, words
from lasttouch.texts import read
from tests.by_hand import Quick, all_labellings, holds_by_hand, listed_program, small_programs, words_by_hand
from tests.samples import A, B, C, NOT_PROGRAMS, SKIP, STRANGE, choice, deep, wide

SIGHTS = ("forward", "backward", "both")
NOT_SIGHTS = STRANGE + ["Forward", "forward ", "backwards", "", "start", ("forward",), ["both"], {"both": "both"}, 0, 2]
PARTS = [A, B, SKIP] + [read(text) for text in [
    "a; b", "b | a", "a*", "(a; b)*", "a; b; a", "skip | b", "c; (a | b)", "(c | a)*; b", "a | b; c",
]]


def facts(program, names):
    """The tuple of the answers to all questions that these names allow."""
    every = words_by_hand(program, 6)
    return tuple(any(holds_by_hand(word, labelling, start) for word in every)
                 for labelling in all_labellings(names) for start in (False, True))


def facts_backwards(program, names):
    """The same for the words read backwards."""
    every = {word[::-1] for word in words_by_hand(program, 6)}
    return tuple(any(holds_by_hand(word, labelling, start) for word in every)
                 for labelling in all_labellings(names) for start in (False, True))


class Equal(Quick):
    def assert_equal_both_ways(self, one, other):
        self.assertIs(equal(one, other, "forward"), True, (one, other))
        self.assertIs(equal(other, one, "forward"), True, (one, other))
        self.assertIsNone(difference(one, other))
        self.assertIs(below(one, other), True)
        self.assertIs(below(other, one), True)

    def test_the_example(self):
        one, other = read("a; b; a"), read("b; a")
        self.assertIs(equal(one, other, "forward"), True)
        self.assertIs(equal(one, other, "backward"), False)
        self.assertIs(equal(one, other, "both"), False)

    def test_rep(self):
        for p in PARTS:
            self.assert_equal_both_ways(("rep", p), ("or", SKIP, p))
            self.assert_equal_both_ways(("rep", ("rep", p)), ("rep", p))

    def test_a_program_that_is_done_again(self):
        for p, q in itertools.product(PARTS, PARTS):
            self.assert_equal_both_ways(("seq", p, q, p), ("seq", q, p))
        for p in PARTS:
            self.assert_equal_both_ways(("seq", p, p), p)

    def test_a_choice_with_what_lies_between(self):
        for p, q in itertools.product(PARTS, PARTS):
            self.assert_equal_both_ways(("or", SKIP, ("seq", p, q), q), ("or", SKIP, ("seq", p, q)))
            self.assert_equal_both_ways(("or", p, q, ("seq", p, q)), ("or", p, q))

    def test_the_usual_rules(self):
        for p, q in itertools.product(PARTS, PARTS):
            self.assert_equal_both_ways(("or", p, ("or", q, C)), ("or", p, q, C))
            self.assert_equal_both_ways(("or", ("or", p, q), C), ("or", p, q, C))
            self.assert_equal_both_ways(("seq", p, ("seq", q, C)), ("seq", p, q, C))
            self.assert_equal_both_ways(("seq", ("seq", p, q), C), ("seq", p, q, C))
            self.assert_equal_both_ways(("or", p, q), ("or", q, p))
            self.assert_equal_both_ways(("or", p, q, p), ("or", p, q))
            self.assert_equal_both_ways(("seq", p, ("or", q, C)), ("or", ("seq", p, q), ("seq", p, C)))
            self.assert_equal_both_ways(("seq", ("or", q, C), p), ("or", ("seq", q, p), ("seq", C, p)))
        for p in PARTS:
            self.assert_equal_both_ways(("or", p, p), p)
            self.assert_equal_both_ways(("seq", p, SKIP), p)
            self.assert_equal_both_ways(("seq", SKIP, p), p)
            self.assert_equal_both_ways(("seq", p, SKIP, C), ("seq", p, C))

    def test_what_is_no_rule(self):
        for one, other in [
            ("a; b", "b; a"), ("a; b; a", "a; b"), ("a | b", "a; b"), ("a*", "a"), ("a | skip", "skip"), ("a", "b"), ("a", "skip"),
            ("skip | a; b | a", "skip | a; b"), ("a; b | b", "a; b"), ("a | b | b; a", "a | b; a"), ("(a; b)*", "a*; b*"),
        ]:
            self.assertIs(equal(read(one), read(other), "forward"), False, (one, other))
            self.assertIs(equal(read(other), read(one), "forward"), False, (one, other))

    def test_backward_the_rules_are_turned_round(self):
        for one, other in [("a; b; a", "a; b"), ("skip | a; b | a", "skip | a; b"), ("a*", "skip | a"), ("a | b | a; b", "a | b")]:
            self.assertIs(equal(read(one), read(other), "backward"), True, (one, other))
            self.assertIs(equal(read(other), read(one), "backward"), True, (one, other))
        for one, other in [("a; b; a", "b; a"), ("skip | a; b | b", "skip | a; b"), ("a; b", "b; a"), ("a", "b")]:
            self.assertIs(equal(read(one), read(other), "backward"), False, (one, other))

    def test_all_small_programs_in_all_sights(self):
        programs = [program for parts in range(1, 4) for program in small_programs(parts, "ab")]
        programs += random.Random(3).sample(small_programs(5, "ab"), 60)
        forward = [facts(program, "ab") for program in programs]
        backward = [facts_backwards(program, "ab") for program in programs]
        for one, other in itertools.product(range(len(programs)), repeat=2):
            first, second = programs[one], programs[other]
            told = [forward[one] == forward[other], backward[one] == backward[other]]
            self.assertIs(equal(first, second, "forward"), told[0], (first, second))
            self.assertIs(equal(first, second, "backward"), told[1], (first, second))
            self.assertIs(equal(first, second, "both"), all(told), (first, second))

    def test_other_names_are_other_programs(self):
        for sight in SIGHTS:
            self.assertIs(equal(A, B, sight), False)
            self.assertIs(equal(("or", A, SKIP), SKIP, sight), False)
            self.assertIs(equal(choice("abc"), choice("def"), sight), False)
            self.assertIs(equal(choice("abcdef"), choice("fedcba"), sight), True)

    def test_the_largest_programs(self):
        for sight in SIGHTS:
            self.assertIs(self.assert_quick(equal, wide("seq", 60), wide("or", 60), sight), True)
            self.assertIs(self.assert_quick(equal, deep(40), ("rep", A), sight), True)
            one, other = ("seq",) + (choice("abcdef"),) * 8, ("rep", choice("abcdef"))
            self.assertIs(self.assert_quick(equal, one, other, sight), False)
            self.assertIs(self.assert_quick(equal, one, one[:4], sight), True)

    def test_wrong_arguments(self):
        self.assert_checks(equal, [(A, NOT_PROGRAMS, InvalidProgram), (B, NOT_PROGRAMS, InvalidProgram),
                                   ("both", NOT_SIGHTS, InvalidSight)])
        self.assert_error(InvalidSight, equal, choice("abcd"), choice("defg"), "Both")

    def test_arguments_by_name(self):
        self.assertIs(equal(sight="forward", other=read("b; a"), one=read("a; b; a")), True)


class Difference(Quick):
    def assert_difference(self, one, other):
        told = difference(one, other)
        names = sorted({name for program in (one, other) for word in words(program, 6) for name in word})
        every = [(labelling, start) for labelling in all_labellings(names) for start in (False, True)]
        apart = [(labelling, start) for labelling, start in every
                 if may(one, labelling, start) != may(other, labelling, start)]
        if not apart:
            self.assertIsNone(told)
            return
        self.assertIsInstance(told, tuple)
        self.assertIn(told, apart)
        self.assertIs(type(told[1]), bool)
        self.assertLessEqual(marked(told[0], "gen"), 1)
        self.assertEqual(marked(told[0], "pass"), min(marked(labelling, "pass") for labelling, _ in apart))

    def test_equal_programs(self):
        for one, other in [("a; b; a", "b; a"), ("skip", "skip*"), ("a", "a; a"), ("b | a", "a | b | b; a")]:
            self.assertIsNone(difference(read(one), read(other)))

    def test_a_few(self):
        for one, other in [
            ("a", "b"), ("skip", "a"), ("a", "skip"), ("a", "a | skip"), ("a; b", "b; a"), ("skip | b", "skip | b; a"),
            ("a; b | b", "a | b"), ("a*; b", "b; a*"), ("(a | b)*", "(a; b)*"),
        ]:
            self.assertIsNotNone(difference(read(one), read(other)))
            self.assert_difference(read(one), read(other))
        # Only the fact at the start can tell these apart, and only a gen these.
        self.assertEqual(difference(A, ("or", A, SKIP)), ((("a", "kill"),), True))
        self.assertEqual(difference(("rep", A), SKIP), ((("a", "gen"),), False))

    def test_small_programs(self):
        programs = [program for parts in range(1, 4) for program in small_programs(parts, "ab")]
        for one, other in itertools.product(programs, programs[::3] + programs[1::5]):
            self.assert_difference(one, other)

    def test_larger_programs(self):
        chance = random.Random(15)
        for parts in list(range(4, 12)) * 12:
            one = listed_program(chance, parts, "abc")
            self.assert_difference(one, listed_program(chance, chance.randrange(3, 12), "abc"))
            self.assert_difference(one, listed_program(chance, chance.randrange(3, 12), "bcd"))

    def test_many_marks_are_needed(self):
        self.assert_difference(read("a; b; c; d"), read("b; a; c; d"))
        self.assert_difference(read("a; b; c; d | d; c; a; b"), read("a; b; c; d | d; c; b; a"))
        self.assert_difference(read("(a; b; c)*"), read("(b; a; c)*"))
        one, other = read("(a; b; c; d; e | f)*"), read("(f | b; a; c; d; e)*")
        told = difference(one, other)
        self.assertNotEqual(may(one, *told), may(other, *told))
        self.assertEqual([name for name, _ in told[0]], list("abcdef"))
        self.assertEqual([marked(told[0], "gen"), marked(told[0], "pass"), told[1]], [1, 3, False])

    def test_the_largest_programs(self):
        self.assertIsNone(self.assert_quick(difference, wide("seq", 60), wide("or", 60)))
        self.assertEqual(self.assert_quick(difference, deep(40), A), ((("a", "kill"),), True))
        # These two are told apart by the start alone.
        one, other = ("seq",) + (choice("abcdef"),) * 8, ("rep", choice("abcdef"))
        told = self.assert_quick(difference, one, other)
        self.assertEqual(told, (tuple((name, "kill") for name in "abcdef"), True))

    def test_wrong_arguments(self):
        self.assert_checks(difference, [(A, NOT_PROGRAMS, InvalidProgram), (B, NOT_PROGRAMS, InvalidProgram)])

    def test_arguments_by_name(self):
        self.assertEqual(difference(other=("rep", A), one=A), ((("a", "kill"),), True))


def marked(labelling, mark):
    """How many names of the labelling have this mark."""
    return [other for _, other in labelling].count(mark)


class Below(Quick):
    def test_the_example(self):
        self.assertIs(below(read("a; b"), read("a | b")), True)
        self.assertIs(below(read("a | b"), read("a; b")), False)

    def test_a_member_is_below_its_or(self):
        for p, q in itertools.product(PARTS, PARTS):
            self.assertIs(below(p, ("or", p, q)), True)
            self.assertIs(below(("or", p, q), q), below(p, q))

    def test_small_programs(self):
        programs = [program for parts in range(1, 4) for program in small_programs(parts, "ab")]
        programs += random.Random(4).sample(small_programs(5, "ab"), 60)
        told = [facts(program, "ab") for program in programs]
        for one, other in itertools.product(range(len(programs)), repeat=2):
            wanted = all(there or not here for here, there in zip(told[one], told[other]))
            self.assertIs(below(programs[one], programs[other]), wanted, (programs[one], programs[other]))

    def test_larger_programs(self):
        chance = random.Random(16)
        programs = [listed_program(chance, parts, "abc") for parts in list(range(3, 11)) * 3]
        programs += [read(text) for text in ["a; b | c", "a | b | c", "skip | a | b | c", "(a | b | c); (a | b | c)"]]
        told = [facts(program, "abc") for program in programs]
        for one, other in itertools.product(range(len(programs)), repeat=2):
            wanted = all(there or not here for here, there in zip(told[one], told[other]))
            self.assertIs(below(programs[one], programs[other]), wanted, (programs[one], programs[other]))

    def test_names_of_one_only(self):
        self.assertIs(below(SKIP, ("or", A, SKIP)), True)
        self.assertIs(below(("or", A, SKIP), SKIP), False)
        self.assertIs(below(A, B), False)

    def test_the_largest_programs(self):
        self.assertIs(self.assert_quick(below, wide("seq", 60), deep(40)), True)
        self.assertIs(self.assert_quick(below, deep(40), wide("seq", 60)), False)
        self.assertIs(self.assert_quick(below, ("seq",) + (choice("abcdef"),) * 8, ("rep", choice("abcdef"))), True)

    def test_wrong_arguments(self):
        self.assert_checks(below, [(A, NOT_PROGRAMS, InvalidProgram), (B, NOT_PROGRAMS, InvalidProgram)])

    def test_arguments_by_name(self):
        self.assertIs(below(other=read("a | b"), one=read("a; b")), True)


class OneBehindTheOther(Quick):
    def assert_as_put_together(self, one, other):
        first, second = ("seq", one, other), ("seq", other, one)
        self.assertIs(idle_before(one, other), equal(first, other, "forward"), (one, other))
        self.assertIs(idle_behind(one, other), equal(second, other, "forward"), (one, other))
        self.assertIs(exchange(one, other), equal(first, second, "forward"), (one, other))

    def test_the_example(self):
        self.assertIs(idle_before(A, read("b; a")), True)
        self.assertIs(exchange(A, B), False)

    def test_idle_before(self):
        for one, other in [("a", "a"), ("a", "b; a"), ("skip", "a"), ("a; b", "a; b"), ("a*", "a"), ("a", "a; b"), ("b", "c; b; a")]:
            self.assertIs(idle_before(read(one), read(other)), True, (one, other))
        for one, other in [("a", "b"), ("a", "skip"), ("a", "a*"), ("a", "a | b"), ("a; b", "b"), ("b; a", "a"), ("a", "b | a; b")]:
            self.assertIs(idle_before(read(one), read(other)), False, (one, other))

    def test_idle_behind(self):
        for one, other in [("a", "a"), ("a", "b; a"), ("skip", "a"), ("a; b", "a; b"), ("a*", "a"), ("a*", "a*")]:
            self.assertIs(idle_behind(read(one), read(other)), True, (one, other))
        for one, other in [("a", "b"), ("a", "skip"), ("a", "a*"), ("a", "a; b"), ("b; a", "a"), ("b*", "a"), ("a", "b | a; b")]:
            self.assertIs(idle_behind(read(one), read(other)), False, (one, other))

    def test_exchange(self):
        for one, other in [("a", "a"), ("a", "skip"), ("a", "a*"), ("a*", "b*"), ("a; b", "a; b"), ("a; b", "b"), ("a | b", "b | a")]:
            self.assertIs(exchange(read(one), read(other)), exchange(read(other), read(one)), (one, other))
        self.assertIs(exchange(A, ("rep", A)), True)
        self.assertIs(exchange(("or", A, B), ("rep", A)), True)
        self.assertIs(exchange(SKIP, read("a; b")), True)
        self.assertIs(exchange(A, read("a; b")), False)
        self.assertIs(exchange(read("a | skip"), read("b | skip")), True)

    def test_all_small_programs(self):
        programs = [program for parts in range(1, 4) for program in small_programs(parts, "ab")]
        for one, other in itertools.product(programs, programs):
            self.assert_as_put_together(one, other)

    def test_larger_programs(self):
        chance = random.Random(17)
        for parts in list(range(3, 14)) * 30:
            one = listed_program(chance, parts, "abc")
            other = listed_program(chance, chance.randrange(1, 14), "abcd")
            self.assert_as_put_together(one, other)
            self.assert_as_put_together(other, one)

    def test_by_words(self):
        chance = random.Random(18)
        for _ in range(60):
            one, other = listed_program(chance, 4, "ab"), listed_program(chance, 5, "ab")
            first, second = ("seq", one, other), ("seq", other, one)
            self.assertIs(idle_before(one, other), facts(first, "ab") == facts(other, "ab"))
            self.assertIs(idle_behind(one, other), facts(second, "ab") == facts(other, "ab"))
            self.assertIs(exchange(one, other), facts(first, "ab") == facts(second, "ab"))

    def test_programs_that_are_none_when_put_together(self):
        chain = ("seq",) + tuple(("do", name) for name in "abcdef" * 9)
        for one, other in [(wide("seq", 60), wide("or", 60)), (deep(40), A), (A, deep(40)), (deep(40), deep(40)), (chain, chain)]:
            self.assertIs(is_program(("seq", one, other)), False)
        for call in (idle_before, idle_behind, exchange):
            self.assertIs(self.assert_quick(call, wide("seq", 60), wide("or", 60)), True)
            self.assertIs(self.assert_quick(call, deep(40), A), True)
            self.assertIs(self.assert_quick(call, A, deep(40)), call is exchange)
            self.assertIs(self.assert_quick(call, deep(40), deep(40)), True)
            self.assertIs(self.assert_quick(call, chain, chain), True)
            self.assertIs(self.assert_quick(call, chain, chain[:-6]), True)
            self.assertIs(self.assert_quick(call, chain, chain + (A,)), call is idle_before)
            self.assertIs(self.assert_quick(call, chain + (A,), chain), call is idle_before)

    def test_wrong_arguments(self):
        for call in (idle_before, idle_behind, exchange):
            self.assert_checks(call, [(A, NOT_PROGRAMS, InvalidProgram), (B, NOT_PROGRAMS, InvalidProgram)])

    def test_arguments_by_name(self):
        self.assertIs(idle_before(other=read("b; a"), one=A), True)
        self.assertIs(idle_behind(other=read("a; b"), one=A), False)
        self.assertIs(exchange(other=A, one=A), True)


class Together(Quick):
    def calls(self):
        yield from (difference, below, idle_before, idle_behind, exchange)
        for sight in SIGHTS:
            yield lambda one, other, sight=sight: equal(one, other, sight)

    def test_more_than_6_names(self):
        for call in self.calls():
            self.assert_error(TooLarge, call, choice("abcd"), choice("efg"))
            self.assert_error(TooLarge, call, choice("abcdef"), ("do", "g"))
            self.assert_error(TooLarge, call, ("do", "g"), choice("abcdef"))
            self.assert_error(TooLarge, call, choice("abcdef"), ("or", A, ("do", "aa")))
            self.assert_error(TooLarge, call, choice("abcdef"), choice("ghijkl"))

    def test_6_names(self):
        for call in self.calls():
            call(choice("abc"), choice("def"))
            call(choice("abcdef"), A)
            call(choice("abcdef"), choice("fedcba"))

    def test_no_program_comes_first(self):
        for call in self.calls():
            self.assert_error(InvalidProgram, call, choice("abcdefg"), ("do", "h"))
            self.assert_error(InvalidProgram, call, choice("abcdef"), ("do", "g", "h"))


if __name__ == "__main__":
    unittest.main()
