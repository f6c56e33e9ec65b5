"""Tests of lasttouch.bits, which the other files share: points [7], [13] and [15]."""

import itertools
import random
import unittest

from lasttouch.bits import (
    above, all_sets, bit_table_of, bits_of, fitting_sets, is_in, least, listed_bits, named, named_sets, named_table,
    no_words_table, one_less, or_table, order_in_front, places, seq_table, skip_table, together,
)
from lasttouch.tables import bit_table, table
from tests import by_hand
from tests.by_hand import all_tables, is_table_by_hand, least_by_hand, orders_by_hand, small_programs, table_forms

ABC = ("a", "b", "c")


class Sets(unittest.TestCase):
    def test_sets_and_their_bits(self):
        self.assertEqual(sorted(bits_of(members, ABC) for members in by_hand.all_sets(ABC)), list(range(8)))
        for members in by_hand.all_sets(ABC):
            self.assertEqual(named(bits_of(members, ABC), ABC), members)
            self.assertEqual([ABC[place] for place in places(bits_of(members, ABC))], list(members))
            rests = {named(rest, ABC) for rest in one_less(bits_of(members, ABC))}
            self.assertEqual(rests, set(itertools.combinations(members, len(members) - 1)) if members else set())
        self.assertEqual(named_sets([6, 1], ABC), (("a",), ("b", "c")))

    def test_some_sets_together(self):
        for chosen in itertools.product(range(8), repeat=3):
            self.assertEqual(listed_bits(together(chosen)), sorted(set(chosen)))
            for bits in range(8):
                self.assertIs(is_in(bits, together(chosen)), bits in chosen)
        self.assertEqual(listed_bits(together([])), [])
        for many in range(7):
            self.assertEqual(listed_bits(all_sets(many)), list(range(1 << many)))

    def test_above_and_least(self):
        for chosen in itertools.product(range(8), repeat=3):
            self.assertEqual(listed_bits(above(chosen, 3)), [bits for bits in range(8) if any(bits & one == one for one in chosen)])
            sets = least_by_hand([named(bits, ABC) for bits in chosen])
            self.assertEqual(least(above(chosen, 3)), sorted(bits_of(members, ABC) for members in sets))
        self.assertEqual(least(above([], 3)), [])
        self.assertEqual(least(all_sets(6)), [0])

    def test_fitting_sets(self):
        for found in all_tables("ab"):
            _, rows = bit_table_of(found, ABC)
            for members in by_hand.all_sets("abc"):
                self.assertIs(is_in(bits_of(members, ABC), fitting_sets(rows)), bool(orders_by_hand(found, members)))

    def test_orders_in_front(self):
        for found in [form for form in table_forms("abc") if is_table_by_hand(form)][::7]:
            fitting = fitting_sets(bit_table_of(found, ABC)[1])
            for bits, tail in itertools.product(listed_bits(fitting), repeat=2):
                if bits & tail == tail:
                    orders = [word[:len(word) - len(places(tail))] for word in orders_by_hand(found, named(bits, ABC))
                              if set(word[len(word) - len(places(tail)):]) == set(named(tail, ABC))]
                    told = tuple(ABC[place] for place in order_in_front(bits, tail, fitting))
                    self.assertEqual(told, min(orders), (found, bits, tail))


class BitTables(unittest.TestCase):
    def test_names_that_do_not_occur(self):
        for parts in range(1, 5):
            for program in small_programs(parts, "bd"):
                found = bit_table(program, tuple("abcde"), {})
                self.assertEqual(named_table(found, tuple("abcde")), table(program))
                self.assertEqual(bit_table_of(table(program), tuple("abcde")), found)

    def test_the_sets_above(self):
        found = ((("a", "c"), ("b",)), (("a", (("c",),)), ("b", ((),)), ("c", ((),))))
        rows = [above([4], 3), all_sets(3), all_sets(3)]
        self.assertEqual(bit_table_of(found, ABC), (above([5, 2], 3), rows))
        self.assertEqual(named_table((above([5, 2], 3), rows), ABC), found)

    def test_what_has_no_words(self):
        chance = random.Random(2)
        none = no_words_table(3)
        for program in chance.sample(small_programs(4, "abc"), 40):
            found = bit_table(program, ABC, {})
            self.assertEqual(seq_table(none, found), none)
            self.assertEqual(seq_table(found, none), none)
            self.assertEqual(or_table(none, found), found)
            self.assertEqual(or_table(found, none), found)
            self.assertEqual(bit_table(("seq", program, ("call", "p")), ABC, {"p": none}), none)
            self.assertEqual(bit_table(("seq", ("call", "p"), program), ABC, {"p": none}), none)
        self.assertEqual(bit_table(("rep", ("call", "p")), ABC, {"p": none}), skip_table(3))


if __name__ == "__main__":
    unittest.main()
