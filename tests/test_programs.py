"""Tests of lasttouch.programs: points [3], [4], [7], [8] and [10]."""

import copy
import itertools
import unittest

from lasttouch.errors import InvalidNumber, InvalidProgram, TooLarge
from lasttouch.programs import is_program, names, reverse, words
from lasttouch.texts import read
from tests.by_hand import Quick, small_programs, words_by_hand
from tests.samples import A, B, C, NOT_PROGRAMS, SKIP, STRANGE, choice, deep, wide

NOT_LONGEST = [-1, 7, 10 ** 999, -(10 ** 999), True, False, None, "", "3", (3,), [3], {3: 3}, (), []]

# 5 * 5 * 5 * 4 * 4 words of exactly five actions.
EXACTLY_2000 = ("seq",) + (choice("abcde"),) * 3 + (choice("abcd"),) * 2


def is_reversed(one, other):
    """Whether other is one with the members of each seq turned round, by its definition."""
    if one[0] != other[0] or len(one) != len(other):
        return False
    if one[0] in ("do", "skip"):
        return one == other
    behind = other[:0:-1] if one[0] == "seq" else other[1:]
    return all(is_reversed(member, twin) for member, twin in zip(one[1:], behind))


class IsProgram(Quick):
    def test_the_five_kinds(self):
        for value in [A, SKIP, ("seq", A, B), ("seq", A, B, C), ("or", A, SKIP), ("or", A, A, A), ("rep", A)]:
            with self.subTest(value):
                self.assertIs(is_program(value), True)

    def test_kinds_within_one_another(self):
        inner = ("seq", ("rep", ("rep", SKIP)), ("or", A, ("or", B, C)), ("seq", A, ("seq", B, A)))
        self.assertIs(is_program(inner), True)
        self.assertIs(is_program(("or", inner, inner)), True)

    def test_what_is_none(self):
        for value in NOT_PROGRAMS:
            with self.subTest(repr(value)[:60]):
                self.assertIs(self.assert_quick(is_program, value), False)

    def test_strange_values_in_every_place(self):
        for value in STRANGE:
            with self.subTest(repr(value)[:60]):
                self.assertIs(is_program(("do", value)), value == "a")
                self.assertIs(is_program(("rep", value)), False)
                self.assertIs(is_program((value, A)), False)
                self.assertIs(is_program((value, A, B)), False)
                self.assertIs(is_program(("seq", A, value)), False)
                self.assertIs(is_program(("or", value, A)), False)

    def test_at_most_60_parts(self):
        for kind in ("seq", "or"):
            self.assertIs(is_program(wide(kind, 60)), True)
            self.assertIs(is_program(wide(kind, 61)), False)
        half = wide("seq", 29)
        self.assertIs(is_program(("or", half, half, A)), True)
        self.assertIs(is_program(("or", half, half, A, SKIP)), False)
        self.assertIs(is_program(("rep", ("or", half, half, A))), False)

    def test_parts_count_as_often_as_they_stand(self):
        shared = A
        for _ in range(30):
            shared = ("or", shared, shared)
        self.assertIs(self.assert_quick(is_program, shared), False)

    def test_at_most_6_names(self):
        self.assertIs(is_program(choice("abcdef")), True)
        self.assertIs(is_program(choice("abcdefg")), False)
        self.assertIs(is_program(("seq", choice("abcdef"), ("rep", choice("fedcba")))), True)
        self.assertIs(is_program(("seq", choice("abcdef"), ("rep", choice("ag")))), False)

    def test_at_most_40_deep(self):
        self.assertIs(is_program(deep(40)), True)
        self.assertIs(is_program(deep(41)), False)
        self.assertIs(is_program(("seq", SKIP, deep(39))), True)
        self.assertIs(is_program(("seq", SKIP, deep(40))), False)
        self.assertIs(is_program(("or", deep(40), SKIP)), False)

    def test_skip_is_one_deep(self):
        program = SKIP
        for _ in range(39):
            program = ("rep", program)
        self.assertIs(is_program(program), True)
        self.assertIs(is_program(("rep", program)), False)

    def test_names_that_are_allowed(self):
        for name in ["a", "z", "m", "ab", "abcdefgh", "zzzzzzzz", "do", "rep", "or", "seq", "skips", "ends",
                     "started", "ski", "call", "gen", "kill", "pass"]:
            with self.subTest(name):
                self.assertIs(is_program(("do", name)), True)

    def test_names_that_are_not(self):
        for name in ["", "abcdefghi", "A", "aB", "a1", "1", "a b", " a", "a ", "a\n", "\n", "a\t", "_", "a_b", "a-b",
                     "`", "{", "~", "*", "skip", "start", "end"]:
            with self.subTest(name):
                self.assertIs(is_program(("do", name)), False)


class Names(Quick):
    def test_ascending_and_each_once(self):
        self.assertEqual(names(read("c; a | b; (a; c)*")), ("a", "b", "c"))
        self.assertEqual(names(choice("fedcba")), ("a", "b", "c", "d", "e", "f"))

    def test_longer_names(self):
        self.assertEqual(names(read("b; ab; a; abc; do; aa")), ("a", "aa", "ab", "abc", "b", "do"))

    def test_one_name_and_none(self):
        self.assertEqual(names(A), ("a",))
        self.assertEqual(names(SKIP), ())
        self.assertEqual(names(("or", ("rep", SKIP), ("seq", SKIP, SKIP))), ())

    def test_it_is_a_tuple(self):
        self.assertIs(type(names(SKIP)), tuple)
        self.assertIs(type(names(A)), tuple)

    def test_the_largest_programs(self):
        self.assertEqual(names(wide("or", 60)), ("a",))
        self.assertEqual(names(deep(40)), ("a",))

    def test_no_program(self):
        for value in NOT_PROGRAMS:
            with self.subTest(repr(value)[:60]), self.assertRaises(InvalidProgram):
                self.assert_quick(names, value)


class Reverse(Quick):
    def test_one_part(self):
        self.assertEqual(reverse(A), A)
        self.assertEqual(reverse(SKIP), SKIP)

    def test_a_seq(self):
        self.assertEqual(reverse(("seq", A, B)), ("seq", B, A))
        self.assertEqual(reverse(("seq", A, B, SKIP, C)), ("seq", C, SKIP, B, A))

    def test_an_or_and_a_rep_stay(self):
        self.assertEqual(reverse(("or", A, B, SKIP)), ("or", A, B, SKIP))
        self.assertEqual(reverse(("rep", A)), ("rep", A))

    def test_at_every_depth(self):
        program = read("a; (b; c | (a; b)*; (c | d; e)); f")
        self.assertEqual(reverse(program), read("f; (c; b | (c | e; d); (b; a)*); a"))
        self.assertEqual(reverse(("seq", ("seq", A, B), C)), ("seq", C, ("seq", B, A)))

    def test_all_small_programs(self):
        for parts in range(1, 6):
            for program in small_programs(parts, "ab"):
                turned = reverse(program)
                self.assertTrue(is_reversed(program, turned), program)
                self.assertEqual(reverse(turned), program)

    def test_its_words_are_read_backwards(self):
        for text in ["a; b; c", "(a; b)* | c; a", "a; (b | skip; c)*; (a; a | b)"]:
            program = read(text)
            backwards = {word[::-1] for word in words(program, 5)}
            self.assertEqual(set(words(reverse(program), 5)), backwards)

    def test_the_largest_programs(self):
        for program in [wide("seq", 60), deep(40)]:
            self.assertEqual(reverse(program), program)

    def test_no_program(self):
        for value in NOT_PROGRAMS:
            with self.subTest(repr(value)[:60]), self.assertRaises(InvalidProgram):
                self.assert_quick(reverse, value)


class Words(Quick):
    def test_order(self):
        self.assertEqual(words(read("b; a | c | a; b | skip | a"), 6), [(), ("a",), ("c",), ("a", "b"), ("b", "a")])
        self.assertEqual(words(read("b | ab | a | abc"), 1), [("a",), ("ab",), ("abc",), ("b",)])

    def test_each_once(self):
        self.assertEqual(words(read("a | a | skip; a | (a | a); skip"), 6), [("a",)])
        self.assertEqual(words(read("(a | a; a)*"), 3), [(), ("a",), ("a", "a"), ("a", "a", "a")])
        self.assertEqual(words(read("skip** | (skip | skip)*"), 6), [()])

    def test_longest_0(self):
        self.assertEqual(words(read("a* | b"), 0), [()])
        self.assertEqual(words(A, 0), [])

    def test_longest_6(self):
        self.assertEqual(words(read("a*"), 6), [("a",) * many for many in range(7)])
        self.assertEqual(words(wide("seq", 7), 6), [("a",) * 6])
        self.assertEqual(words(wide("seq", 8), 6), [])

    def test_each_longest(self):
        every = words(read("(a | b; c)*"), 6)
        for longest in range(7):
            self.assertEqual(words(read("(a | b; c)*"), longest), [word for word in every if len(word) <= longest])

    def test_all_small_programs(self):
        for parts, letters, longest in [(1, "ab", 3), (2, "ab", 3), (3, "ab", 4), (4, "ab", 4), (5, "ab", 5), (6, "a", 6)]:
            for program in small_programs(parts, letters):
                told = words(program, longest)
                self.assertEqual(told, sorted(words_by_hand(program, longest), key=lambda word: (len(word), word)))

    def test_some_larger_programs(self):
        for text in ["((a; b)* | (b; a)*)*; (a | skip)", "(a*; b*)*", "((a | b; c)*; (c | skip))**; a",
                     "(a; (b; (c | skip)*)* | a; a)*", "(skip | a; b); (skip | b; c); (skip | c; a)"]:
            program = read(text)
            for longest in range(6):
                by_hand = sorted(words_by_hand(program, longest), key=lambda word: (len(word), word))
                self.assertEqual(words(program, longest), by_hand)

    def test_parts_with_many_more_words(self):
        program = read("(a | b | c | d | e | f)*; a; a; a; a; a; a")
        self.assertEqual(self.assert_quick(words, program, 6), [("a",) * 6])
        program = read("a; a; a; (a | b | c | d | e | f)*; a; a; a")
        self.assertEqual(self.assert_quick(words, program, 6), [("a",) * 6])
        program = read("(a | b | c | d | e | f)*; b; (a | b | c | d | e | f)*; a; a; a; a; c")
        self.assertEqual(self.assert_quick(words, program, 6), [("b", "a", "a", "a", "a", "c")])

    def test_exactly_2000_words(self):
        told = self.assert_quick(words, EXACTLY_2000, 6)
        letters = ["abcde"] * 3 + ["abcd"] * 2
        self.assertEqual(told, list(itertools.product(*letters)))
        self.assertEqual(len(told), 2000)
        self.assertEqual(words(EXACTLY_2000, 5), told)
        self.assertEqual(words(EXACTLY_2000, 4), [])

    def test_one_word_more(self):
        for more in [SKIP, ("do", "f"), ("seq", A, A, A, A, ("do", "e")), ("seq", A, A, A, A, A, A)]:
            with self.subTest(more), self.assertRaises(TooLarge):
                words(("or", EXACTLY_2000, more), 6)

    def test_a_word_that_was_there_is_no_more(self):
        self.assertEqual(len(words(("or", EXACTLY_2000, EXACTLY_2000[:1] + (A,) * 5), 6)), 2000)

    def test_longer_words_do_not_count(self):
        program = ("or", EXACTLY_2000, wide("seq", 8))
        self.assertEqual(len(words(program, 6)), 2000)

    def test_beginnings_that_lead_nowhere_do_not_count(self):
        program = ("seq", ("rep", choice("abcdef")), ("do", "a"), ("do", "b"), ("do", "c"))
        self.assertEqual(len(words(program, 6)), 1 + 6 + 36 + 216)

    def test_many_more_words(self):
        for program in [("rep", choice("abcdef")), ("rep", choice("abcdef" * 9)), ("rep", ("rep", choice("fedcba")))]:
            self.assertEqual(len(words(program, 4)), 1 + 6 + 36 + 216 + 1296)
            for longest in (5, 6):
                with self.subTest(longest=longest), self.assertRaises(TooLarge):
                    self.assert_quick(words, program, longest)
        self.assertEqual(self.assert_quick(words, ("seq",) + (choice("abcdef"),) * 8, 6), [])

    def test_many_parts(self):
        program = ("rep", ("or", ("rep", wide("seq", 28)), ("rep", wide("or", 28))))
        self.assertEqual(self.assert_quick(words, program, 6), [("a",) * many for many in range(7)])
        program = ("rep", ("or",) + (("rep", choice("ab")),) * 14)
        self.assertEqual(len(self.assert_quick(words, program, 6)), 127)
        program = ("rep", ("or",) + (("rep", A), ("rep", B), ("rep", C)) * 9)
        self.assertEqual(len(self.assert_quick(words, program, 6)), sum(3 ** many for many in range(7)))
        program = ("seq",) + (("or", A, SKIP), ("or", B, SKIP)) * 7 + (choice("ab"), A)
        self.assertEqual(len(self.assert_quick(words, program, 6)), sum(2 ** many for many in range(1, 6)))
        self.assertEqual(self.assert_quick(words, deep(40), 6), [("a",) * many for many in range(7)])
        self.assertEqual(self.assert_quick(words, wide("seq", 60), 6), [])

    def test_longest_that_is_none(self):
        for longest in NOT_LONGEST:
            with self.subTest(repr(longest)[:60]), self.assertRaises(InvalidNumber):
                words(A, longest)

    def test_order_of_the_checks(self):
        for value in NOT_PROGRAMS:
            with self.subTest(repr(value)[:60]), self.assertRaises(InvalidProgram):
                words(value, 7)
            with self.subTest(repr(value)[:60]), self.assertRaises(InvalidProgram):
                self.assert_quick(words, value, 6)
        with self.assertRaises(InvalidNumber):
            words(("rep", choice("abcdef")), 7)

    def test_a_new_list_each_time(self):
        one = words(read("a | b"), 6)
        self.assertIs(type(one), list)
        one.clear()
        self.assertEqual(words(read("a | b"), 6), [("a",), ("b",)])


class Arguments(unittest.TestCase):
    def test_by_name(self):
        self.assertIs(is_program(value=A), True)
        self.assertEqual(names(program=A), ("a",))
        self.assertEqual(reverse(program=A), A)
        self.assertEqual(words(longest=1, program=A), [("a",)])
        self.assertEqual(words(A, longest=0), [])

    def test_the_first_wrong_one_counts_in_any_order(self):
        with self.assertRaises(InvalidProgram):
            words(longest=7, program=None)
        with self.assertRaises(InvalidNumber):
            words(longest=7, program=A)

    def test_they_are_not_modified(self):
        for value in [["do", "a"], ("seq", ["do", "a"], {"skip": []}), {"seq": [A, B]}, ("do", [])]:
            kept = copy.deepcopy(value)
            is_program(value)
            for call in (names, reverse, lambda program: words(program, 3)):
                with self.assertRaises(InvalidProgram):
                    call(value)
            self.assertEqual(value, kept)

    def test_nothing_changes_if_an_error_is_raised(self):
        before = words(read("(a | b)*"), 3)
        for wrong in [(("rep", choice("abcdef")), 6), (A, 7), (None, 3)]:
            with self.assertRaises(ValueError):
                words(*wrong)
        self.assertEqual(words(read("(a | b)*"), 3), before)


if __name__ == "__main__":
    unittest.main()
