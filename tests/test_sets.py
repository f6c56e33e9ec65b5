"""Tests of lasttouch.sets: points [7], [8], [9] and [15]."""

import itertools
import random
import unittest

from lasttouch.errors import InvalidFamily, InvalidNames, InvalidTable
from lasttouch.sets import family_table, fitting, is_family, is_fitting, order
from lasttouch.tables import is_table, table, word_table
from lasttouch.texts import read
from tests.by_hand import (
    Quick, all_families, all_sets, all_tables, antichains, is_family_by_hand, is_set_by_hand, listed_program, not_these,
    orders_by_hand, table_forms,
)
from tests.samples import STRANGE
from tests.test_tables import CHAIN, EMPTY, MANY, NOT_TABLES, ONE, WIDEST

NOT_SETS = not_these(is_set_by_hand, [
    ["a"], [], {}, {"a": 1}, "a", "", ("b", "a"), ("a", "a"), ("A",), ("a", "skip"), ("a", None), (("a",),), (["a"],), ({},),
    ("a", "b", "a"), ("",), ("abcdefghi",), (True,), (0, 1), ("a", "b", "end"), ("a\n",),
    tuple("".join(letters) for letters in itertools.product("abcdefghijklm", repeat=3)) + ("a",),
])
# A set with thousands of names is a set, too.
THOUSANDS = tuple("".join(letters) for letters in itertools.product("abcdefghijklm", repeat=3))
SIX = tuple(all_sets("abcdef"))
STEPS = tuple(tuple("abcdef"[:many]) for many in range(7))

NOT_FAMILIES = [value for value in STRANGE if value != ((),)] + [
    # no tuple of sets
    [()], list(STEPS), {(): ()}, ([],), ((), ["a"]), ("",), (None,), ((), None), ((), "a"), ((), ("A",)), ((), ("skip",)),
    ((), ("a",), ("a", "a")), ((), ("a",), ("b", "a")), ((), (("a",),)), ((), ({},)), ((), (None,)), ((), ("abcdefghi",)),
    # not ascending, or with doubles
    (("a",), ()), ((), ("b",), ("a", "b"), ("a",)), ((), ()), ((), ("a",), ("a",)), ((), ("a",), ("b",), ("a", "b")), SIX[::-1],
    # too many names
    tuple(tuple("abcdefg"[:many]) for many in range(8)), ((), tuple("abcdefg")), tuple(all_sets("abcdefg")),
    # too many sets
    SIX + SIX, SIX + (("f",),), tuple(all_sets("abcdefg"))[:64], tuple(all_sets("abcdefg"))[:65],
    # without the empty set
    (), (("a",),), (("a",), ("a", "b"), ("b",)), STEPS[1:], SIX[1:],
    # without a union
    ((), ("a",), ("b",)), ((), ("a",), ("a", "b"), ("a", "c")), ((), ("a",), ("a", "b"), ("b",), ("c",)),
    tuple(members for members in SIX if members != tuple("abcdef")),
    # a set that cannot be built up
    ((), ("a", "b")), ((), ("a",), ("a", "b", "c")), ((), ("a",), ("a", "b", "c"), ("b", "c")), ((), tuple("abcdef")),
    ((), ("a",), ("a", "b"), ("a", "b", "c", "d")), STEPS[:3] + STEPS[4:],
]


class Order(Quick):
    def assert_orders(self, found, names):
        orders = orders_by_hand(found, names)
        self.assertIs(is_fitting(found, names), bool(orders), (found, names))
        self.assertEqual(order(found, names), orders[0] if orders else None, (found, names))

    def test_the_example(self):
        one = table(read("a; b | c"))
        self.assertEqual(order(one, ("a", "b", "c")), ("a", "b", "c"))
        self.assertIs(is_fitting(one, ("a", "b", "c")), True)
        self.assertIsNone(order(one, ("a", "c")))
        self.assertIs(is_fitting(one, ("a", "c")), False)

    def test_the_empty_set(self):
        for found in [EMPTY, ONE, WIDEST, CHAIN, MANY]:
            self.assertEqual(order(found, ()), ())
            self.assertIs(is_fitting(found, ()), True)

    def test_all_tables_of_two_names(self):
        for found in all_tables("ab"):
            for names in all_sets("abc"):
                self.assert_orders(found, names)

    def test_tables_of_three_names(self):
        for found in [form for form in table_forms("abc") if is_table(form)][::3]:
            for names in all_sets("abc"):
                self.assert_orders(found, names)

    def test_tables_of_programs(self):
        chance = random.Random(19)
        for parts in list(range(6, 14)) * 3:
            found = table(listed_program(chance, parts, "abcde"))
            for names in all_sets("abcde"):
                self.assert_orders(found, names)

    def test_six_names(self):
        for found in [WIDEST, CHAIN, MANY]:
            for names in SIX[::3] + SIX[-3:]:
                self.assert_orders(found, names)

    def test_the_least_order_is_not_the_first_that_is_found(self):
        # From behind a and then b could be done first, but then a would not stand at the front.
        found = table(read("a; b; c | b; a; c | c"))
        self.assertEqual(order(found, ("a", "b", "c")), ("a", "b", "c"))
        found = table(read("c; b; a | a"))
        self.assertEqual(order(found, ("a", "b", "c")), ("c", "b", "a"))
        found = table(read("d; a | a; d | b | c; b; a"))
        self.assertEqual(order(found, ("a", "b", "c", "d")), orders_by_hand(found, "abcd")[0])

    def test_names_without_a_row(self):
        for names in [("b",), ("a", "b"), ("aa",), ("a", "aa"), tuple("bcdefgh"), tuple("abcdefg"), THOUSANDS]:
            self.assertIs(self.assert_quick(is_fitting, ONE, names), False)
            self.assertIsNone(self.assert_quick(order, ONE, names))
        self.assertIs(is_fitting(WIDEST, tuple("abcdefg")), False)
        self.assertIsNone(order(WIDEST, tuple("abcdefg")))
        self.assertIs(is_fitting(EMPTY, ("a",)), False)

    def test_wrong_arguments(self):
        for call in (is_fitting, order):
            self.assert_checks(call, [(ONE, NOT_TABLES, InvalidTable), (("a",), NOT_SETS, InvalidNames)])

    def test_arguments_by_name(self):
        self.assertIs(is_fitting(names=("a",), table=ONE), True)
        self.assertEqual(order(names=("a",), table=ONE), ("a",))


class Fitting(Quick):
    def test_the_example(self):
        found = fitting(table(read("a; b | c")))
        self.assertEqual(found, ((), ("a", "b"), ("a", "b", "c"), ("b",), ("b", "c"), ("c",)))

    def assert_fitting(self, found, names):
        told = fitting(found)
        self.assertEqual(told, tuple(members for members in all_sets(names) if orders_by_hand(found, members)))
        self.assertIs(is_family(told), True)

    def test_all_tables_of_two_names(self):
        for found in all_tables("ab"):
            self.assert_fitting(found, "ab")

    def test_tables_of_three_names(self):
        for found in table_forms("abc"):
            if is_table(found):
                self.assert_fitting(found, "abc")

    def test_tables_of_programs(self):
        chance = random.Random(20)
        for parts in list(range(6, 14)) * 3:
            self.assert_fitting(table(listed_program(chance, parts, "abcde")), "abcde")

    def test_six_names(self):
        self.assertEqual(self.assert_quick(fitting, WIDEST), SIX)
        self.assertEqual(self.assert_quick(fitting, CHAIN), tuple(sorted(tuple("abcdef"[at:]) for at in range(7))))
        self.assertEqual(self.assert_quick(fitting, EMPTY), ((),))
        self.assertIs(is_family(self.assert_quick(fitting, MANY)), True)

    def test_the_starts_do_not_matter(self):
        self.assertEqual(fitting((((),), MANY[1])), fitting(MANY))

    def test_wrong_arguments(self):
        self.assert_checks(fitting, [(ONE, NOT_TABLES, InvalidTable)])

    def test_arguments_by_name(self):
        self.assertEqual(fitting(table=ONE), ((), ("a",)))


class IsFamily(Quick):
    def test_what_is_none(self):
        for value in NOT_FAMILIES:
            with self.subTest(repr(value)[:80]):
                self.assertIs(self.assert_quick(is_family, value), False)

    def test_strange_values_in_every_place(self):
        for value in STRANGE:
            with self.subTest(repr(value)[:60]):
                self.assertIs(is_family((value,)), value == ())
                self.assertIs(is_family(((), value)), is_set_by_hand(value) and len(value) == 1)
                self.assertIs(is_family(((), ("a",), ("a", value))), is_set_by_hand(("a", value)))

    def test_the_widest(self):
        self.assertEqual(len(SIX), 64)
        self.assertIs(self.assert_quick(is_family, SIX), True)
        self.assertIs(is_family(STEPS), True)
        self.assertIs(is_family(((),)), True)
        self.assertIs(is_family(((), ("abcdefgh",))), True)

    def test_without_one_member(self):
        for at, members in enumerate(SIX):
            self.assertIs(is_family(SIX[:at] + SIX[at + 1:]), is_family_by_hand(SIX[:at] + SIX[at + 1:]), members)

    def test_all_tuples_of_sets_of_two_names(self):
        for many in range(5):
            for chosen in itertools.product(all_sets("ab"), repeat=many):
                wanted = list(chosen) == sorted(set(chosen)) and is_family_by_hand(chosen)
                self.assertIs(is_family(chosen), wanted, chosen)

    def test_all_of_three_names(self):
        sets = all_sets("abc")
        for bits in range(1 << len(sets)):
            chosen = tuple(members for at, members in enumerate(sets) if bits & 1 << at)
            self.assertIs(is_family(chosen), is_family_by_hand(chosen), chosen)
        self.assertEqual([len(all_families("abc"[:many])) for many in range(4)], [1, 1, 3, 22])

    def test_many_of_four_names(self):
        sets = all_sets("abcd")
        chance = random.Random(21)
        for _ in range(300):
            # Closed under union, so that the other conditions decide.
            known = {()} | set(chance.sample(sets, chance.randrange(1, 7)))
            for _ in range(4):
                known |= {tuple(sorted(set(one + other))) for one in known for other in known}
            chosen = tuple(sorted(known))
            self.assertIs(is_family(chosen), is_family_by_hand(chosen), chosen)

    def test_arguments_by_name(self):
        self.assertIs(is_family(value=((),)), True)


class FamilyTable(Quick):
    def test_the_example(self):
        one = table(read("a; b | c"))
        self.assertEqual(family_table(fitting(one), one[0]), one)

    def test_from_tables_and_back(self):
        for found in all_tables("ab") + [form for form in table_forms("abc") if is_table(form)]:
            self.assertEqual(family_table(fitting(found), found[0]), found)

    def test_from_families_and_back(self):
        for names in ["", "a", "ab", "abc"]:
            for family in all_families(names):
                for starts in antichains(family):
                    found = family_table(family, starts)
                    self.assertIs(is_table(found), True)
                    self.assertEqual(found[0], starts)
                    self.assertEqual(fitting(found), family)

    def test_as_many_as_there_are_tables(self):
        pairs = [(family, starts) for names in all_sets("ab") for family in all_families(names)
                 for starts in antichains(family)]
        self.assertEqual(sorted(family_table(*pair) for pair in pairs), all_tables("ab"))

    def test_tables_of_programs(self):
        chance = random.Random(22)
        for parts in list(range(6, 14)) * 5:
            found = table(listed_program(chance, parts, "abcdef"))
            self.assertEqual(family_table(fitting(found), found[0]), found)

    def test_six_names(self):
        for found in [WIDEST, CHAIN, MANY, word_table(tuple("fedcba")), EMPTY, ONE]:
            self.assertEqual(self.assert_quick(family_table, fitting(found), found[0]), found)
        threes = tuple(itertools.combinations("abcdef", 3))
        self.assertEqual(self.assert_quick(family_table, SIX, threes), (threes, WIDEST[1]))

    def test_starts_that_are_none(self):
        family = fitting(table(read("a; b | c")))
        for starts in [
            (), [()], [("a", "b")], {}, None, "", "a", ("a", "b"), ("c",), (["c"],), ((), ()), (("b",), ("b",)),
            (("a",),), (("a", "c"),), (("a",), ("b",)), (("d",),), (("b",), ("c",), ("d",)), (("b", "a"),), (("c", "c"),),
            (("c",), ("b",)), (("c",), ("a", "b")), ((), ("b",)), (("a", "b"), ("b",)), (("a", "b", "c"), ("b", "c")), family,
            (("b",), ("b", "c")), ((), None), (None,), ((None,),), (((),),), (0,), (("b",), ["c"]), (("b",), "c"),
        ]:
            self.assert_error(InvalidNames, family_table, family, starts)
        for starts in [((),), (("a", "b"),), (("b",), ("c",)), (("a", "b"), ("b", "c")), (("a", "b"), ("c",)), (("a", "b", "c"),)]:
            self.assertEqual(family_table(family, starts)[0], starts)

    def test_wrong_arguments(self):
        strange = [value for value in STRANGE if value != ((),)]
        self.assert_checks(family_table, [
            (((), ("a",)), NOT_FAMILIES, InvalidFamily), ((("a",),), strange, InvalidNames),
        ])
        self.assert_checks(family_table, [
            (SIX, NOT_FAMILIES[-3:], InvalidFamily),
            (SIX[:1], strange + [SIX * 20, ((),) * 9000, (("a",),) * 4000, (THOUSANDS,)], InvalidNames),
        ])

    def test_arguments_by_name(self):
        self.assertEqual(family_table(starts=(("a",),), family=((), ("a",))), ONE)


if __name__ == "__main__":
    unittest.main()
