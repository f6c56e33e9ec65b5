"""Tests of lasttouch.counting: points [8], [9] and [18]."""

import unittest

from lasttouch.counting import classes, families, tables
from lasttouch.errors import InvalidNames, InvalidNumber
from lasttouch.tables import is_table
from tests.by_hand import (
    Quick, all_families, all_sets, all_tables, antichains, families_of, is_set_by_hand, is_table_by_hand, not_these,
    table_forms,
)
NOT_NUMBERS = not_these(lambda value: type(value) is int and 0 <= value <= 3, [
    True, False, "2", "", None, -1, 10, (), (1,), [2], {1: 1},
])
NOT_SMALL_SETS = not_these(lambda value: is_set_by_hand(value) and len(value) <= 2, [
    ("a", "b", "c"), tuple("abcdef"), tuple("abcdefg"), ("b", "a"), ("a", "a"), ["a"], [], "a", "ab", {"a": 1}, ("A",), ("a", "skip"),
    ("end",), ("abcdefghi",), (None,), ("a", 1), (("a",),), (["a"],),
])


class Classes(Quick):
    def test_the_example(self):
        self.assertEqual([classes(number) for number in [0, 1, 2]], [1, 3, 16])

    def test_all_that_have_the_form(self):
        for number in range(3):
            forms = [form for chosen in all_sets("ab"[:number]) for form in table_forms(chosen)]
            self.assertEqual(classes(number), sum(is_table_by_hand(form) for form in forms))

    def test_three_names(self):
        forms = [form for chosen in all_sets("abc") for form in table_forms(chosen)]
        self.assertEqual(self.assert_quick(classes, 3), sum(is_table_by_hand(form) for form in forms))
        # A family and the starts that are chosen of it are the same as a table.
        pairs = [len(antichains(family)) for chosen in all_sets("abc") for family in all_families(chosen)]
        self.assertEqual(classes(3), sum(pairs))

    def test_wrong_arguments(self):
        self.assert_checks(classes, [(0, NOT_NUMBERS + [4, 5, 6], InvalidNumber)])

    def test_arguments_by_name(self):
        self.assertEqual(classes(number=1), 3)


class Families(Quick):
    def test_the_example(self):
        self.assertEqual([families(number) for number in [0, 1, 2, 3]], [1, 1, 3, 22])

    def test_all_families(self):
        for number in range(4):
            self.assertEqual(families(number), len(all_families("abc"[:number])))
            self.assertEqual(families(number), len(families_of("abc"[:number])))

    def test_four_names(self):
        self.assertEqual(self.assert_quick(families, 4), len(families_of("abcd")))

    def test_wrong_arguments(self):
        self.assert_checks(families, [(0, NOT_NUMBERS + [5, 6], InvalidNumber)])

    def test_arguments_by_name(self):
        self.assertEqual(families(number=2), 3)


class Tables(Quick):
    def test_the_example(self):
        self.assertEqual(list(tables(("a",))), [(((),), ()), (((),), (("a", ((),)),)), ((("a",),), (("a", ((),)),))])

    def test_sets_of_names(self):
        for names in [(), ("a",), ("abcdefgh",), ("a", "b"), ("b", "zz"), ("aa", "b"), ("skipped", "x")]:
            told = list(self.assert_quick(tables, names))
            self.assertEqual(told, all_tables(names))
            self.assertEqual(told, sorted(set(told)))
            self.assertEqual(len(told), classes(len(names)))
            for found in told:
                self.assertIs(is_table(found), True)

    def test_it_is_an_iterator(self):
        told = tables(("a", "b"))
        self.assertIs(iter(told), told)
        self.assertEqual(next(told), (((),), ()))
        self.assertEqual(len(list(told)), 15)
        self.assertEqual(list(told), [])
        one, other = tables(("a",)), tables(("a",))
        self.assertEqual([next(one), next(one), next(other)], [(((),), ()), (((),), (("a", ((),)),)), (((),), ())])

    def test_all_of_two_names_that_have_the_form(self):
        forms = [form for chosen in all_sets("ab") for form in table_forms(chosen)]
        self.assertEqual(list(tables(("a", "b"))), sorted(form for form in forms if is_table_by_hand(form)))

    def test_wrong_arguments(self):
        self.assert_checks(lambda names: next(tables(names)), [(("a",), NOT_SMALL_SETS, InvalidNames)])

    def test_arguments_by_name(self):
        self.assertEqual(next(tables(names=())), (((),), ()))


if __name__ == "__main__":
    unittest.main()
