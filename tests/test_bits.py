"""Tests of lasttouch.bits, which the other files share: points [7] and [15]."""

import itertools
import unittest

from lasttouch.bits import bit_table_of, bits_of, fits, least, named, named_sets, named_table
from lasttouch.tables import bit_table, table
from tests.by_hand import all_sets, all_tables, least_by_hand, orders_by_hand, small_programs


class Bits(unittest.TestCase):
    def test_sets_and_their_bits(self):
        every = ("a", "b", "c")
        self.assertEqual(sorted(bits_of(members, every) for members in all_sets(every)), list(range(8)))
        for members in all_sets(every):
            self.assertEqual(named(bits_of(members, every), every), members)
        self.assertEqual(named_sets([6, 1], every), (("a",), ("b", "c")))

    def test_least(self):
        every = ("a", "b", "c")
        for chosen in itertools.product(range(8), repeat=3):
            sets = least_by_hand([named(bits, every) for bits in chosen])
            self.assertEqual(least(chosen), sorted(bits_of(members, every) for members in sets))
        self.assertEqual(least([]), [])

    def test_fits(self):
        for found in all_tables("ab"):
            _, rows = bit_table_of(found, ("a", "b", "c"))
            for members in all_sets("abc"):
                self.assertIs(fits(bits_of(members, ("a", "b", "c")), rows), bool(orders_by_hand(found, members)))


class BitTables(unittest.TestCase):
    def test_names_that_do_not_occur(self):
        for parts in range(1, 5):
            for program in small_programs(parts, "bd"):
                found = bit_table(program, ("a", "b", "c", "d", "e"))
                self.assertEqual(named_table(found, ("a", "b", "c", "d", "e")), table(program))
                self.assertEqual(bit_table_of(table(program), ("a", "b", "c", "d", "e")), found)

    def test_the_order_of_the_sets(self):
        found = ((("a", "c"), ("b",)), (("a", (("c",),)), ("b", ((),)), ("c", ((),))))
        self.assertEqual(bit_table_of(found, ("a", "b", "c")), ([2, 5], [[4], [0], [0]]))
        self.assertEqual(named_table(([2, 5], [[4], [0], [0]]), ("a", "b", "c")), found)


if __name__ == "__main__":
    unittest.main()
