"""Tests of lasttouch.tables: points [7], [8], [9] and [13]."""

import itertools
import random
import unittest

from lasttouch.errors import (
    InvalidLabelling, InvalidProgram, InvalidStart, InvalidTable, InvalidWord, Missing,
)
from lasttouch.labels import may, must, run
from lasttouch.programs import is_program, words
from lasttouch.tables import is_table, may_hold, must_hold, table, word_table
from lasttouch.texts import read
from tests.by_hand import (
    Quick, all_labellings, all_sets, all_tables, is_table_by_hand, listed_program, orders_by_hand, small_programs,
    table_by_hand, table_forms, words_by_hand,
)
from tests.samples import A, NOT_PROGRAMS, SKIP, STRANGE, choice, deep, wide
from tests.test_labels import LABELLING, NOT_LABELLINGS, NOT_STARTS, NOT_WORDS, SIX

EMPTY = (((),), ())
ONE = ((("a",),), (("a", ((),)),))
# Tables with six names: all that can be, none with fewer sets; all pairs of four names behind the
# other two; and a single word.
WIDEST = (((),), tuple((name, ((),)) for name in "abcdef"))
PAIRS = tuple(itertools.combinations("abcd", 2))
MANY = (
    tuple(sorted(list(itertools.combinations("abcd", 3)) + [pair + (name,) for pair in PAIRS for name in "ef"])),
    tuple((name, ((),)) for name in "abcd") + (("e", PAIRS), ("f", PAIRS)),
)
CHAIN = ((tuple("abcdef"),), tuple((name, (tuple("abcdef")[at + 1:],)) for at, name in enumerate("abcdef")))

# One condition of [13] is broken in each of these, as far as one can be broken without others.
BROKEN = [
    # no pair of tuples
    list(ONE), ONE + ((),), ONE[:1], (ONE,), (list(ONE[0]), ONE[1]), (ONE[0], list(ONE[1])), (dict(ONE[1]), ONE[1]),
    (ONE[0], {"a": ((),)}), (ONE[0], None), (None, ONE[1]), (ONE[0], "a"), ("a", ONE[1]), ("", ()), ((), ""), (((),), ""),
    # sets that are none
    ((["a"],), ONE[1]), (("a",), ONE[1]), ((None,), ONE[1]), (([],), ()), (("",), ()), (({},), ()),
    (ONE[0], (("a", ([],)),)), (ONE[0], (("a", ("",)),)), (ONE[0], (("a", [()]),)), (ONE[0], (("a", ()),)),
    (ONE[0], (("a", None),)), (ONE[0], (("a", {}),)), (ONE[0], (("a", ""),)),
    ((("a", "a"),), ONE[1]), ((("b", "a"),), WIDEST[1]), (((),), WIDEST[1][:2] + (("c", (("b", "a"),)),)),
    (((),), WIDEST[1][:2] + (("c", (("a", "a"),)),)),
    # rows that are none
    (ONE[0], (["a", ((),)],)), (ONE[0], (("a", ((),), ()),)), (ONE[0], (("a",),)), (ONE[0], ((),)), (ONE[0], ("ab",)),
    (ONE[0], (None,)), (((),), (("A", ((),)),)), (((),), (("skip", ((),)),)), (((),), (("start", ((),)),)),
    (((),), (("", ((),)),)), (((),), ((None, ((),)),)), (((),), ((1, ((),)),)), (((),), ((("a",), ((),)),)),
    (((),), ((["a"], ((),)),)), (((),), (("abcdefghi", ((),)),)),
    # the names of rows
    (((),), WIDEST[1][1::-1]), (((),), WIDEST[1][:1] * 2), (((),), WIDEST[1][::-1]),
    (((),), WIDEST[1] + (("g", ((),)),)), (((),), tuple((name, ((),)) for name in "abcdefghijklmnopqrstuvwxyz")),
    # no member
    ((), ()), ((), ONE[1]), ((("a",),), (("a", ()),)),
    # not ascending
    ((("b",), ("a",)), WIDEST[1]), ((("a",), ("a",)), ONE[1]), (((), ()), ()),
    (((),), WIDEST[1][:2] + (("c", (("b",), ("a",))),)), (((),), (("a", ((), ())),)),
    # one that contains another one
    (((), ("a",)), ONE[1]), ((("a",), ("a", "b")), WIDEST[1]), ((("a", "b"), ("b",)), WIDEST[1]),
    (((),), WIDEST[1][:1] + (("b", ((), ("a",))),)), (((),), WIDEST[1][:2] + (("c", (("a", "b"), ("b",))),)),
    # the name of the row
    (((),), (("a", (("a",),)),)), (((),), WIDEST[1][:1] + (("b", (("a", "b"),)),)),
    (((),), (("a", (("a",), ("b",))), ("b", ((),)))),
    # sets that do not fit
    ((("a",),), ()), ((("b",),), ONE[1]), ((("a",),), (("a", (("b",),)), ("b", (("a",),)))),
    (((),), (("a", (("b",),)), ("b", (("a",),)))), ((("a",),), (("a", (("b",),)), ("b", ((),)))),
    (((),), (("a", (("b",),)),)), (((),), (("a", (("b",), ("c",))), ("b", ((),)))), ((("b",), ("g",)), WIDEST[1]),
    (((),), (("a", (("b",), ("c",))), ("b", ((),)), ("c", (("b",),)))),
    (((),), (("a", (("b",),)), ("b", (("c",),)), ("c", (("a",),)))),
]
NOT_TABLES = STRANGE + BROKEN + [
    (((),), ("a", ((),))), ((((),),), ()), ((tuple("abcdefg"),), WIDEST[1]), ((tuple("abcdefghijklmnopqrstuvwxyz"),), WIDEST[1]),
    (((),) * 9000, ()), ((("a",),) * 4000, ONE[1]), (((),), (("a", ((),) * 9000),)), (((),), WIDEST[1] * 300),
    (ONE, ONE), (ONE[1], ONE[0]), read("a; b"), ("a", "b"), LABELLING,
]


class Table(Quick):
    def test_the_example(self):
        self.assertEqual(table(read("a; b")), ((("a", "b"),), (("a", (("b",),)), ("b", ((),)))))
        self.assertEqual(table(read("a | skip")), (((),), (("a", ((),)),)))
        self.assertEqual(table(read("(a; b)*")), table(read("skip | a; b")))

    def test_one_part(self):
        self.assertEqual(table(SKIP), EMPTY)
        self.assertEqual(table(A), ONE)
        self.assertEqual(table(("do", "abcdefgh")), ((("abcdefgh",),), (("abcdefgh", ((),)),)))

    def test_all_small_programs(self):
        for parts in range(1, 7):
            for program in small_programs(parts, "ab" if parts > 4 else "abc"):
                self.assertEqual(table(program), table_by_hand(words(program, 6)), program)

    def test_larger_programs(self):
        chance = random.Random(13)
        for parts in list(range(5, 14)) * 20:
            program = listed_program(chance, parts, chance.choice(["abc", "abcd", "abcdef", ["b", "ab", "abc"]]))
            self.assertEqual(table(program), table_by_hand(words(program, 6)), program)

    def test_the_order_of_names_and_sets(self):
        found = table(read("c; (b | ab | a); abc"))
        self.assertEqual(found[0], (("a", "abc", "c"), ("ab", "abc", "c"), ("abc", "b", "c")))
        self.assertEqual([name for name, _ in found[1]], ["a", "ab", "abc", "b", "c"])
        self.assertEqual(found[1][4], ("c", (("a", "abc"), ("ab", "abc"), ("abc", "b"))))
        # As tuples these two are in the other order than by their sizes.
        self.assertEqual(table(read("b | a; c"))[0], (("a", "c"), ("b",)))

    def test_the_largest_programs(self):
        for kind in ("seq", "or"):
            self.assertEqual(self.assert_quick(table, wide(kind, 60)), ONE)
        self.assertEqual(self.assert_quick(table, deep(40)), (((),), ONE[1]))
        for first in ("or", "seq"):
            program = SKIP
            for at in range(29):
                kind = first if at % 3 else "or"
                program = (kind, ("do", "abcdef"[at * at % 6]), program)
            self.assertIs(is_program(("rep", program)), True)
            self.assertIs(is_program(("rep", ("rep", program))), False)
            found = table_by_hand(words_by_hand(program, 60))
            self.assertEqual(self.assert_quick(table, program), found)
            self.assertEqual(self.assert_quick(table, ("rep", program)), (((),), found[1]))

    def test_millions_of_words(self):
        found = self.assert_quick(table, ("seq",) + (choice("abcdef"),) * 8)
        self.assertEqual(found, (tuple((name,) for name in "abcdef"), WIDEST[1]))
        found = self.assert_quick(table, ("seq",) + (choice("abc"), choice("def")) * 7)
        self.assertEqual(found[0], tuple((one, other) for one in "abc" for other in "def"))
        behind = {name: (("d",), ("e",), ("f",)) if name in "abc" else ((),) for name in "abcdef"}
        self.assertEqual(found[1], tuple(behind.items()))

    def test_many_sets(self):
        for many, size in [(14, 3), (15, 2)]:
            every = list(itertools.combinations("abcdef", size))[:many]
            program = ("or",) + tuple(("seq",) + tuple(("do", name) for name in word) for word in every)
            found = self.assert_quick(table, program)
            self.assertEqual(found, table_by_hand(every))
            self.assertEqual(len(found[0]), many)
        pairs = ("or",) + tuple(("seq", ("do", one), ("do", other)) for one, other in ["ab", "cd", "ef"])
        found = self.assert_quick(table, ("seq",) + (pairs,) * 5)
        self.assertEqual(found, table_by_hand([sum(chosen, ()) for chosen in
                                               itertools.product([("a", "b"), ("c", "d"), ("e", "f")], repeat=5)]))

    def test_wrong_arguments(self):
        self.assert_checks(table, [(A, NOT_PROGRAMS, InvalidProgram)])

    def test_arguments_by_name(self):
        self.assertEqual(table(program=A), ONE)


class WordTable(Quick):
    def test_all_short_words(self):
        for length in range(6):
            for word in itertools.product("abc", repeat=length):
                self.assertEqual(word_table(word), table_by_hand([word]))

    def test_the_empty_word(self):
        self.assertEqual(word_table(()), EMPTY)

    def test_long_words(self):
        chance = random.Random(60)
        for _ in range(50):
            word = tuple(chance.choice(["a", "ab", "abc", "b", "zz", "z"]) for _ in range(60))
            self.assertEqual(word_table(word), table_by_hand([word]))
        self.assertEqual(word_table(tuple("abcdef") * 10), CHAIN)
        self.assertEqual(word_table(("a",) * 60), ONE)

    def test_it_is_the_table_of_the_program(self):
        for word in [("a", "b", "a"), tuple("fedcba"), tuple("abcdef") * 9, ("a", "a")]:
            self.assertEqual(word_table(word), table(("seq",) + tuple(("do", name) for name in word)))
        self.assertEqual(word_table(("a",)), table(A))

    def test_wrong_arguments(self):
        self.assert_checks(word_table, [(("a",), NOT_WORDS, InvalidWord)])

    def test_arguments_by_name(self):
        self.assertEqual(word_table(word=("a",)), ONE)


class IsTable(Quick):
    def test_what_is_none(self):
        for value in NOT_TABLES:
            with self.subTest(repr(value)[:80]):
                self.assertIs(self.assert_quick(is_table, value), False)

    def test_strange_values_in_every_place(self):
        for value in STRANGE:
            with self.subTest(repr(value)[:60]):
                self.assertIs(is_table((value, ())), value == ((),))
                self.assertIs(is_table((value, ONE[1])), value == ((),))
                self.assertIs(is_table((ONE[0], value)), False)
                self.assertIs(is_table(((value,), ())), value == ())
                self.assertIs(is_table((ONE[0], (value,))), False)
                self.assertIs(is_table((ONE[0], ((value, ((),)),))), value == "a")
                self.assertIs(is_table((ONE[0], (("a", value),))), value == ((),))
                self.assertIs(is_table((ONE[0], (("a", (value,)),))), value == ())

    def test_six_names(self):
        for value in [WIDEST, MANY, CHAIN, (((),), MANY[1]), (((),), CHAIN[1])]:
            self.assertIs(self.assert_quick(is_table, value), True)

    def test_tables_of_programs(self):
        for parts in range(1, 6):
            for program in small_programs(parts, "ab"):
                self.assertIs(is_table(table(program)), True)

    def test_tables_of_many_words(self):
        # The or of so many words has far more than 60 parts.
        chance = random.Random(7)
        for many in [1, 2, 5, 20, 100, 200]:
            every = [tuple(chance.choices("abcdef", k=chance.randrange(12))) for _ in range(many)]
            self.assertIs(is_table(table_by_hand(every)), True)
            long = [word + tuple(chance.sample("abcdef", 4)) for word in every]
            self.assertIs(is_table(table_by_hand(long)), True)

    def test_all_of_two_names(self):
        of_programs = {table(program) for parts in range(1, 8) for program in small_programs(parts, "ab")}
        self.assertEqual(len(of_programs), 16)
        self.assertEqual(set(all_tables("ab")), of_programs)
        for chosen in all_sets("ab"):
            for form in table_forms(chosen):
                self.assertIs(is_table(form), form in of_programs, form)

    def test_all_of_three_names(self):
        for form in table_forms("abc"):
            self.assertIs(is_table(form), is_table_by_hand(form), form)

    def test_all_of_three_names_belong_to_words(self):
        # A word for each set of starts, and one for each set of a row that ends in it and begins
        # with a set of starts.
        for form in table_forms("abc"):
            if is_table(form):
                heads = [orders_by_hand(form, members)[0] for members in form[0]]
                tails = [(name,) + orders_by_hand(form, members)[0] for name, sets in form[1] for members in sets]
                self.assertEqual(table_by_hand(heads + [heads[0] + tail for tail in tails]), form)

    def test_arguments_by_name(self):
        self.assertIs(is_table(value=ONE), True)


class MayHoldAndMustHold(Quick):
    def assert_same(self, program, labelling, start):
        found = table(program)
        self.assertIs(may_hold(found, labelling, start), may(program, labelling, start), (program, labelling, start))
        self.assertIs(must_hold(found, labelling, start), must(program, labelling, start), (program, labelling, start))

    def test_small_programs(self):
        for parts in range(1, 5):
            for program in small_programs(parts, "ab"):
                for labelling in all_labellings("ab"):
                    for start in (False, True):
                        self.assert_same(program, labelling, start)

    def test_larger_programs(self):
        chance = random.Random(14)
        for parts in range(6, 30, 2):
            program = listed_program(chance, min(parts, 14), "abc")
            for labelling in all_labellings("abc"):
                for start in (False, True):
                    self.assert_same(program, labelling, start)
        for text in ["a; b; c; d | (b; a; d)*; c | d; (a; b | c)", "(a | b; c); (c | d; a)*; (b | d)"]:
            for labelling in all_labellings("abcd"):
                for start in (False, True):
                    self.assert_same(read(text), labelling, start)

    def test_tables_of_words(self):
        word = ("a", "c", "b", "a")
        for labelling in all_labellings("abc"):
            for start in (False, True):
                self.assertIs(may_hold(word_table(word), labelling, start), run(word, labelling, start))
                self.assertIs(must_hold(word_table(word), labelling, start), run(word, labelling, start))

    def test_more_names_than_the_table(self):
        for labelling in [(), LABELLING, SIX, tuple((name, "gen") for name in "abc")]:
            for start in (False, True):
                self.assertIs(may_hold(EMPTY, labelling, start), start)
                self.assertIs(must_hold(EMPTY, labelling, start), start)
        self.assert_same(A, SIX, True)
        self.assert_same(("rep", A), LABELLING, False)

    def test_the_largest_tables(self):
        for found in [WIDEST, MANY, CHAIN]:
            self.assertIs(self.assert_quick(may_hold, found, SIX, True), True)
            self.assertIs(self.assert_quick(must_hold, found, SIX, True), True)
            self.assertIs(self.assert_quick(may_hold, found, SIX, False), False)
            self.assertIs(self.assert_quick(must_hold, found, SIX, False), False)
        gens = (("a", "pass"), ("b", "kill"), ("c", "kill"), ("d", "pass"), ("e", "kill"), ("f", "gen"))
        self.assertIs(may_hold(MANY, gens, False), True)
        self.assertIs(may_hold(MANY, (("a", "kill"),) + gens[1:], False), False)

    def test_names_that_the_labelling_lacks(self):
        for call in (may_hold, must_hold):
            for found, labelling, name in [
                (WIDEST, SIX[1:], "a"), (WIDEST, SIX[:5], "f"), (WIDEST, (), "a"), (ONE, (("b", "gen"),), "a"),
                (table(read("c; b; a")), (("a", "gen"),), "b"), (table(read("b; aa")), (("a", "gen"), ("c", "gen")), "aa"),
            ]:
                self.assertEqual(self.assert_error(Missing, call, found, labelling, True).name, name)

    def test_wrong_arguments(self):
        for call in (may_hold, must_hold):
            self.assert_checks(call, [
                (ONE, NOT_TABLES, InvalidTable), (LABELLING, NOT_LABELLINGS, InvalidLabelling),
                (True, NOT_STARTS, InvalidStart),
            ])
            self.assert_error(InvalidStart, call, WIDEST, (), None)

    def test_arguments_by_name(self):
        self.assertIs(may_hold(start=False, labelling=LABELLING, table=ONE), True)
        self.assertIs(must_hold(start=False, labelling=LABELLING, table=(((),), ONE[1])), False)


if __name__ == "__main__":
    unittest.main()
