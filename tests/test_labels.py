"""Tests of lasttouch.labels: points [5], [8], [9] and [12]."""

import itertools
import random
import unittest

from lasttouch.errors import InvalidLabelling, InvalidProgram, InvalidStart, InvalidWord, Missing
from lasttouch.labels import may, must, run
from lasttouch.programs import words
from lasttouch.texts import read
from tests.by_hand import (
    Quick, all_labellings, holds_by_hand, is_labelling_by_hand, is_word_by_hand, listed_program, not_these,
    small_programs,
)
from tests.samples import A, B, NOT_PROGRAMS, SKIP, choice, deep, wide

LABELLING = (("a", "gen"), ("b", "kill"), ("c", "pass"))
SIX = tuple((name, "pass") for name in "abcdef")

NOT_LABELLINGS = not_these(is_labelling_by_hand, [
    (("b", "gen"), ("a", "gen")), (("a", "gen"), ("a", "gen")), (("a", "gen"), ("a", "kill")),
    tuple((name, "pass") for name in "abcdefg"), [("a", "gen")], (["a", "gen"],), {"a": "gen"}, ("a", "gen"),
    (("a", "gen", "kill"),), (("a",),), ((),), (("a", "gen"), ()), (("a", "gen"), None), ("ab",),
    (("a", "Gen"),), (("a", "gen "),), (("a", ""),), (("a", None),), (("a", True),), (("a", ("gen",)),), (("a", ["gen"]),),
    (("A", "gen"),), (("", "gen"),), (("skip", "gen"),), (("start", "kill"),), (("end", "pass"),), (("abcdefghi", "gen"),),
    ((1, "gen"),), ((None, "gen"),), ((("a",), "gen"),), ((["a"], "gen"),), (({}, {}),), (("gen", "a"),), (("a1", "gen"),),
    (("a", "gen"), ("b", "kill"), ("c", "skip")), (("b", "gen"), ("aa", "gen")), ((True, False),), (("a\n", "gen"),),
])
NOT_STARTS = not_these(lambda value: isinstance(value, bool), ["True", "False", "start", 0, 1, -1, (True,), [False], {}])
NOT_WORDS = not_these(is_word_by_hand, [
    ("a",) * 61, tuple("abcdefg"), ["a"], [], "a", "abc", {"a": 1}, ("A",), ("a", "skip"), ("end", "a"), ("a", None),
    ("a", "abcdefghi"), ("a", ""), (("a",),), ("a", ["b"]), ("a", {}), (True,), ("a", 1), ("a\n",), ("a b",), ("a", ()),
    ("a",) * 9999, ("a",) * 5000 + (["b"],) * 4999,
])


class Run(Quick):
    def test_the_example(self):
        self.assertIs(run(("a", "c"), LABELLING, False), True)
        self.assertIs(run(("a", "b"), LABELLING, True), False)

    def test_all_short_words(self):
        for length in range(5):
            for word in itertools.product("abc", repeat=length):
                for labelling in all_labellings("abc"):
                    for start in (False, True):
                        self.assertIs(run(word, labelling, start), holds_by_hand(word, labelling, start))

    def test_the_empty_word(self):
        for labelling in [(), LABELLING, SIX]:
            self.assertIs(run((), labelling, True), True)
            self.assertIs(run((), labelling, False), False)

    def test_more_names_than_the_word(self):
        self.assertIs(run(("c", "c"), LABELLING, True), True)
        self.assertIs(run(("b", "c"), LABELLING, True), False)

    def test_the_longest_words(self):
        self.assertIs(run(tuple("abcdef") * 10, SIX, True), True)
        self.assertIs(run(tuple("abcdef") * 10, SIX, False), False)
        labelling = SIX[:2] + (("c", "gen"),) + SIX[3:]
        self.assertIs(run(tuple("abcdef") * 10, labelling, False), True)
        self.assertIs(run(("c",) + tuple("abdef") * 11, labelling, False), True)
        self.assertIs(run(("abcdefgh",) * 60, (("abcdefgh", "kill"),), True), False)

    def test_names_that_the_labelling_lacks(self):
        for word, labelling, name in [
            (("c", "b", "a"), (("a", "gen"),), "b"),
            (("c", "d", "b"), (), "b"),
            (("a",), (), "a"),
            (("b", "aa"), (("a", "gen"), ("c", "gen")), "aa"),
            (tuple("fedcba"), SIX[1:5], "a"),
            (tuple("fedcba"), SIX[:5], "f"),
            (("a", "b"), (("b", "kill"),), "a"),
        ]:
            self.assertEqual(self.assert_error(Missing, run, word, labelling, True).name, name)

    def test_a_name_that_is_lacking_counts_wherever_it_stands(self):
        self.assertEqual(self.assert_error(Missing, run, ("b", "a"), (("a", "gen"),), True).name, "b")

    def test_wrong_arguments(self):
        self.assert_checks(run, [
            (("a", "c"), NOT_WORDS, InvalidWord), (LABELLING, NOT_LABELLINGS, InvalidLabelling),
            (True, NOT_STARTS, InvalidStart),
        ])
        self.assert_error(InvalidStart, run, ("d",), LABELLING, None)

    def test_arguments_by_name(self):
        self.assertIs(run(start=False, labelling=LABELLING, word=("a",)), True)
        self.assertIs(run(("a", "b"), start=True, labelling=LABELLING), False)


class MayAndMust(Quick):
    def assert_by_words(self, program, longest, labellings):
        every = words(program, longest)
        for labelling in labellings:
            for start in (False, True):
                facts = [holds_by_hand(word, labelling, start) for word in every]
                self.assertIs(may(program, labelling, start), any(facts), (program, labelling, start))
                self.assertIs(must(program, labelling, start), all(facts), (program, labelling, start))

    def test_the_example(self):
        program = read("a; b*; c")
        self.assertIs(may(program, LABELLING, False), True)
        self.assertIs(must(program, LABELLING, False), False)

    def test_all_small_programs(self):
        labellings = all_labellings("ab")
        for parts in range(1, 6):
            for program in small_programs(parts, "ab"):
                self.assert_by_words(program, 5, labellings)

    def test_some_larger_programs(self):
        chance = random.Random(12)
        for parts in list(range(5, 12)) * 5:
            program = listed_program(chance, parts, "abc")
            self.assert_by_words(program, 6, all_labellings("abc"))

    def test_skip_alone(self):
        for program in [SKIP, ("rep", SKIP), ("seq", SKIP, SKIP), ("or", SKIP, ("rep", ("rep", SKIP)))]:
            for labelling in [(), LABELLING]:
                for start in (False, True):
                    self.assertIs(may(program, labelling, start), start)
                    self.assertIs(must(program, labelling, start), start)

    def test_rep_within_rep(self):
        for text in ["a**", "(a*; b*)*", "((a; b)* | c)**", "(a; (b | c*)*)*"]:
            self.assert_by_words(read(text), 4, all_labellings("abc"))

    def test_labellings_with_more_names(self):
        self.assertIs(may(A, LABELLING + (("d", "gen"), ("e", "gen"), ("f", "gen")), False), True)
        self.assertIs(may(B, LABELLING + (("d", "gen"), ("e", "gen"), ("f", "gen")), True), False)
        self.assertIs(must(SKIP, SIX, True), True)
        self.assertIs(must(("or", A, SKIP), LABELLING, False), False)

    def test_names_that_the_labelling_lacks(self):
        for call in (may, must):
            for text, labelling, name in [
                ("c; b; a", (("a", "gen"),), "b"), ("a", (), "a"), ("(c | d)*; b", (), "b"),
                ("b; aa", (("a", "gen"), ("c", "gen")), "aa"), ("f; e; d; c; b; a", SIX[1:5], "a"),
                ("skip | (skip | z)*", SIX, "z"),
            ]:
                self.assertEqual(self.assert_error(Missing, call, read(text), labelling, True).name, name)

    def test_the_largest_programs(self):
        for program in [wide("seq", 60), wide("or", 60), deep(40)]:
            for mark, fact in [("gen", True), ("kill", False), ("pass", True)]:
                self.assertIs(self.assert_quick(may, program, (("a", mark),), True), fact or program == deep(40))
                self.assertIs(self.assert_quick(must, program, (("a", mark),), True), fact)
        self.assertIs(may(deep(40), (("a", "gen"),), False), True)
        self.assertIs(must(deep(40), (("a", "gen"),), False), False)

    def test_millions_of_words(self):
        program = ("seq",) + (choice("abcdef"),) * 8
        for labelling, start, may_be, must_be in [
            (SIX, True, True, True), (SIX, False, False, False),
            (SIX[:5] + (("f", "gen"),), False, True, False), (SIX[:5] + (("f", "gen"),), True, True, True),
            (SIX[:5] + (("f", "kill"),), True, True, False), (SIX[:5] + (("f", "kill"),), False, False, False),
            (tuple((name, "gen") for name in "abcdef"), False, True, True),
            (tuple((name, "kill") for name in "abcdef"), True, False, False),
        ]:
            self.assertIs(self.assert_quick(may, program, labelling, start), may_be)
            self.assertIs(self.assert_quick(must, program, labelling, start), must_be)

    def test_wrong_arguments(self):
        for call in (may, must):
            self.assert_checks(call, [
                (("or", A, B), NOT_PROGRAMS, InvalidProgram), (LABELLING, NOT_LABELLINGS, InvalidLabelling),
                (False, NOT_STARTS, InvalidStart),
            ])
            self.assert_error(InvalidStart, call, ("do", "d"), LABELLING, None)

    def test_arguments_by_name(self):
        self.assertIs(may(start=False, labelling=LABELLING, program=A), True)
        self.assertIs(must(start=False, labelling=LABELLING, program=("or", A, B)), False)


if __name__ == "__main__":
    unittest.main()
