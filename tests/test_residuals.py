"""Tests of lasttouch.residuals: points [8], [9] and [23]."""

import itertools
import random
import unittest

from lasttouch.equality import below
from lasttouch.errors import InvalidTable, TooLarge
from lasttouch.residuals import most_before, most_behind
from lasttouch.tables import is_table, table
from lasttouch.texts import read
from lasttouch.words import program_of
from tests.by_hand import (
    Quick, all_tables, below_by_hand, draw_tables, listed_program, small_programs, table_by_hand, words_by_hand,
)
from tests.samples import A, B, SKIP, choice
from tests.test_tables import CHAIN, EMPTY, MANY, NOT_TABLES, ONE, WIDEST

# A program for each table of two names.
BY_TABLE = {table(program): program for parts in range(1, 8) for program in small_programs(parts, "ab")}


def behind_exists(one, other):
    """The condition of [23] for most_behind."""
    return {name for name, _ in one[1]} <= {name for name, _ in other[1]}


def before_exists(one, other):
    """The condition of [23] for most_before."""
    rows = dict(other[1])
    return all(any(set(there) <= set(here) for there in rows.get(name, ())) for name, sets in one[1] for here in sets)


def joined_by_hand(one, other):
    """The table of what does a word of the one program and then one of the other, of their words."""
    return table_by_hand([first + second for first in one for second in other])


class Both(Quick):
    def test_all_tables_of_two_names(self):
        self.assertEqual(len(BY_TABLE), 16)
        for p, q in itertools.product(BY_TABLE, repeat=2):
            first, second = BY_TABLE[p], BY_TABLE[q]
            after, before = most_behind(p, q), most_before(p, q)
            self.assertIs(after is None, not behind_exists(p, q))
            self.assertIs(before is None, not before_exists(p, q))
            for x, program in BY_TABLE.items():
                wanted = below(("seq", first, program), second)
                self.assertIs(wanted, after is not None and below_by_hand(x, after), (p, q, x))
                wanted = below(("seq", program, first), second)
                self.assertIs(wanted, before is not None and below_by_hand(x, before), (p, q, x))

    def test_drawn_programs(self):
        chance = random.Random(23)
        counts = [0, 0, 0, 0]
        for at in range(1500):
            letters = "abcd"[:chance.randrange(2, 5)]
            p = listed_program(chance, chance.randrange(1, 6), letters)
            q = listed_program(chance, chance.randrange(3, 12), letters)
            if at % 2:
                q = ("or", ("seq", p, q), q) if at % 4 == 1 else ("or", ("seq", q, p), p)
            x = listed_program(chance, chance.randrange(1, 8), letters)
            after, before = most_behind(table(p), table(q)), most_before(table(p), table(q))
            told = [below(("seq", p, x), q), below(("seq", x, p), q)]
            self.assertIs(told[0], after is not None and below_by_hand(table(x), after), (p, q, x))
            self.assertIs(told[1], before is not None and below_by_hand(table(x), before), (p, q, x))
            counts = [counts[0] + told[0], counts[1] + told[1], counts[2] + (after is None), counts[3] + (before is None)]
        self.assertTrue(all(100 < count < 1400 for count in counts), counts)

    def test_the_greatest_one_can_stand_there(self):
        chance = random.Random(24)
        for _ in range(300):
            p, q = [table_by_hand([tuple(chance.choices("abc", k=chance.randrange(5))) for _ in range(chance.randrange(1, 4))])
                    for _ in range(2)]
            for call, behind in [(most_behind, True), (most_before, False)]:
                x = call(p, q)
                if x is not None:
                    self.assertIs(is_table(x), True)
                    parts = (program_of(p), program_of(x)) if behind else (program_of(x), program_of(p))
                    self.assertIs(below_by_hand(table(("seq", *parts)), q), True, (p, q, x))

    def test_by_words(self):
        chance = random.Random(25)
        for _ in range(200):
            p, q, x = [words_by_hand(listed_program(chance, chance.randrange(1, 8), "abc"), 4) for _ in range(3)]
            if p and q and x:
                found = table_by_hand(q)
                after, before = most_behind(table_by_hand(p), found), most_before(table_by_hand(p), found)
                self.assertIs(below_by_hand(joined_by_hand(p, x), found),
                              after is not None and below_by_hand(table_by_hand(x), after))
                self.assertIs(below_by_hand(joined_by_hand(x, p), found),
                              before is not None and below_by_hand(table_by_hand(x), before))

    def test_names_of_one_table_only(self):
        for call in (most_behind, most_before):
            self.assertIsNone(call(table(A), table(B)))
            self.assertIsNone(call(table(choice("ab")), table(A)))
            self.assertIsNotNone(call(table(A), table(choice("ab"))))
        # What stands there has no names that other lacks.
        for call, p, q in itertools.product((most_behind, most_before), all_tables("ab"), all_tables("ab")):
            told = call(p, q)
            if told is not None:
                self.assertEqual([name for name, _ in told[1]], [name for name, _ in q[1]])

    def test_tables_without_names(self):
        for call in (most_behind, most_before):
            self.assertEqual(call(EMPTY, EMPTY), EMPTY)
            self.assertIsNone(call(ONE, EMPTY))
            for found in all_tables("ab") + [CHAIN, WIDEST, MANY]:
                self.assertEqual(call(EMPTY, found), found)

    def test_six_names(self):
        tables = [WIDEST, CHAIN, MANY, EMPTY, ONE, (((),), MANY[1]), (CHAIN[0], WIDEST[1])]
        tables += draw_tables(random.Random(26), 13, "abcdef")
        for call, p, q in itertools.product((most_behind, most_before), tables, tables):
            told = self.assert_quick(call, p, q)
            exists = behind_exists(p, q) if call is most_behind else before_exists(p, q)
            self.assertIs(told is None, not exists, (p, q))
            if told is not None:
                self.assertIs(is_table(told), True, (p, q))
                if call is most_behind:
                    self.assertEqual(told[1], q[1])

    def test_more_than_six_names_together(self):
        for call in (most_behind, most_before):
            self.assert_error(TooLarge, call, WIDEST, table(("do", "g")))
            self.assert_error(TooLarge, call, table(("do", "g")), WIDEST)
            self.assert_error(TooLarge, call, table(choice("abcd")), table(choice("efg")))
            self.assert_error(InvalidTable, call, WIDEST, (((),), (("g", ()),)))
            self.assertIsNone(call(table(choice("abc")), table(choice("def"))))

    def test_wrong_arguments(self):
        for call in (most_behind, most_before):
            self.assert_checks(call, [(ONE, NOT_TABLES, InvalidTable), (ONE, NOT_TABLES, InvalidTable)])


class MostBehind(Quick):
    def test_the_example(self):
        one, other = table(read("a; b")), table(read("b | a; b"))
        self.assertEqual(most_behind(table(read("a")), one), other)
        self.assertIsNone(most_behind(one, table(read("a"))))

    def test_a_few(self):
        for one, other, wanted in [
            ("a", "a", "skip | a"), ("a", "a | b", "skip | a | b"), ("a; b", "a; b", "skip | b | a; b"),
            ("b", "a; b | b; a", "a | (a; b | b; a)"), ("a | b", "a; b | b; a", "a; b | b; a"),
        ]:
            told = most_behind(table(read(one)), table(read(other)))
            self.assertEqual(told, table(read(wanted)), (one, other))

    def test_arguments_by_name(self):
        self.assertEqual(most_behind(other=table(read("a; b")), one=ONE), table(read("b | a; b")))


class MostBefore(Quick):
    def test_the_example(self):
        one = table(read("a; b"))
        self.assertEqual(most_before(table(read("b")), one), table(read("a | a; b")))

    def test_what_cannot_be_built_up(self):
        # With d alone behind it c could stand before a as well as before b, but d needs a behind it.
        other = table(read("skip | c; b | c; d; a"))
        self.assertEqual(most_before(table(read("a | b")), other), other)

    def test_a_few(self):
        self.assertIsNone(most_before(ONE, table(read("a; b"))))
        self.assertEqual(most_before(table(read("c")), table(read("a; b; c"))), table(read("a; b; (c | skip)")))

    def test_arguments_by_name(self):
        self.assertEqual(most_before(other=table(read("a; b")), one=table(B)), table(read("a | a; b")))
        self.assertEqual(most_before(other=table(SKIP), one=table(SKIP)), EMPTY)


if __name__ == "__main__":
    unittest.main()
