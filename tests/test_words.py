"""Tests of lasttouch.words: points [4], [7], [8], [9] and [16]."""

import itertools
import random
import unittest

from lasttouch.errors import InvalidTable, InvalidWord, InvalidWords, TooLarge
from lasttouch.programs import is_program
from lasttouch.tables import is_table, table
from lasttouch.words import grounds, program_of, shortened
from tests.by_hand import (
    Quick, all_labellings, all_tables, antichains, below_by_hand, draw_tables, families_of, holds_by_hand, last_by_hand,
    random_program, sets_in, small_programs, table_by_hand, table_forms,
)
from tests.samples import STRANGE, choice, deep, wide
from tests.test_labels import NOT_WORDS
from tests.test_tables import CHAIN, EMPTY, MANY, NOT_TABLES, ONE, WIDEST

ALL_AND_ONE = [("a",) * 60] * 59 + [("b",) * 60]
NOT_LISTS = STRANGE + [
    [], (("a",),), ("a",), [["a"]], [("a",), ["b"]], [("a",), None], ["a"], [("a",), "b"], [()] * 61, [("a",)] * 61,
    [("a",), ("b",) * 61], [("a",) * 61], [("A",)], [("a",), ("skip",)], [("a", "b"), ("end",)], [tuple("abcdefg")],
    [("abcdefghi",)], [tuple("abcdef"), ("g",)], [(letter,) for letter in "abcdefg"], [("a",)] * 59 + [("b",)] * 2,
    {(): ()}, {0: ("a",)}, [(("a",),)], [(), (True,)], [("a",)] * 9000, [(("a",) * 99)] * 99, [()] + [None] * 59,
]


def behind(word, name):
    """The names behind the last occurrence of the name in the word."""
    return set(word[len(word) - word[::-1].index(name):])


def grounds_by_hand(words, word):
    """What grounds returns, straight from [16]."""
    found = [next((other for other in words if set(other) <= set(word)), None)]
    for name in last_by_hand(word):
        for other in words:
            if name in other and behind(other, name) <= behind(word, name):
                found.append(other)
                break
        else:
            return None
    return None if found[0] is None else found


def shortened_by_hand(words):
    """What shortened returns, straight from [16]."""
    left = list(enumerate(words))
    for at in range(len(words) - 1, -1, -1):
        others = [word for number, word in left if number != at]
        if others and grounds_by_hand(others, words[at]):
            left = [pair for pair in left if pair[0] != at]
    return [last_by_hand(word) for _, word in left]


def drawn_words(chance, many, longest, letters):
    """A list of so many words."""
    return [tuple(chance.choices(letters, k=chance.randrange(longest + 1))) for _ in range(many)]


class ProgramOf(Quick):
    def assert_has(self, found):
        program = self.assert_quick(program_of, found)
        self.assertIs(is_program(program), True, found)
        self.assertEqual(table(program), found)

    def test_all_tables_of_two_names(self):
        self.assertEqual(len(all_tables("ab")), 16)
        for found in all_tables("ab"):
            self.assert_has(found)

    def test_all_tables_of_three_names(self):
        for found in table_forms("abc"):
            if is_table(found):
                self.assert_has(found)

    def test_tables_of_four_names(self):
        chance = random.Random(4)
        for family in families_of("abcd"):
            every = antichains(family)
            for starts in [max(every, key=len), *chance.sample(every, min(3, len(every)))]:
                rows = []
                for name in "abcd":
                    rest = [set(one) - {name} for one in family if name in one]
                    rows.append((name, table_by_hand([tuple(one) for one in rest if tuple(sorted(one)) in family])[0]))
                self.assert_has((starts, tuple(rows)))

    def test_small_programs(self):
        for parts in range(1, 5):
            for program in small_programs(parts, ["b", "ba"]):
                self.assert_has(table(program))

    def test_at_most_eight_sets(self):
        chance = random.Random(8)
        tried = 0
        while tried < 400:
            many = chance.randrange(1, 7)
            every = [tuple(chance.sample("abcdef"[:many], many)) for _ in range(chance.randrange(1, 4))]
            every += [word[chance.randrange(7):] for word in every]
            found = table_by_hand(every)
            if sets_in(found) <= 8:
                tried += 1
                self.assert_has(found)
        # Six names with as much behind them as there can be.
        for sets in [(("e",), ("f",)), (("e", "f"),)]:
            rows = (*CHAIN[1][:3], ("d", sets), ("e", ((),)), ("f", ((),)))
            self.assert_has((CHAIN[0], rows))
        rows = (("a", (tuple("bdef"), tuple("cdef"))), *[(name, (tuple("def"),)) for name in "bc"], *CHAIN[1][3:])
        self.assert_has((CHAIN[0], rows))
        self.assert_has(((tuple("bdef"), tuple("cdef")), (("a", (tuple("bcdef"),)), *rows[1:])))

    def test_five_and_six_names(self):
        refused = 0
        chance = random.Random(5)
        for found in draw_tables(chance, 150, "abcdef") + draw_tables(chance, 100, "abcde"):
            try:
                self.assert_has(found)
            except TooLarge:
                refused += 1
                self.assertGreater(sets_in(found), 8)
                self.assertGreater(len(found[1]), 4)
        self.assertLess(refused, 50)

    def test_programs_of_six_names(self):
        chance = random.Random(6)
        for parts in range(10, 61, 2):
            found = table(random_program(chance, parts, "abcdef"))
            try:
                self.assert_has(found)
            except TooLarge:
                self.assertGreater(sets_in(found), 8)

    def test_the_largest_tables(self):
        for found in [EMPTY, ONE, WIDEST, CHAIN, table(choice("abcdef")), table(deep(40)), table(wide("seq", 60))]:
            self.assert_has(found)
        # All sets of three names as starts: with their 60 actions and more no program is made.
        threes = (tuple(itertools.combinations("abcdef", 3)), WIDEST[1])
        self.assert_error(TooLarge, program_of, threes)
        for found in [MANY, threes, (threes[0], MANY[1])]:
            if is_table(found):
                try:
                    self.assert_has(found)
                except TooLarge:
                    pass

    def test_wrong_arguments(self):
        self.assert_checks(program_of, [(ONE, NOT_TABLES, InvalidTable)])

    def test_arguments_by_name(self):
        self.assertEqual(table(program_of(table=ONE)), ONE)


class Grounds(Quick):
    def test_the_example(self):
        self.assertEqual(grounds([("b", "c"), ("a", "c")], ("a", "b", "c")),
                         [("b", "c"), ("a", "c"), ("b", "c"), ("b", "c")])
        self.assertIsNone(grounds([("a",), ("b", "a")], ("b",)))

    def assert_grounds(self, words, word):
        told = self.assert_quick(grounds, words, word)
        self.assertEqual(told, grounds_by_hand(words, word), (words, word))
        return told

    def test_drawn_lists(self):
        chance = random.Random(16)
        told = []
        for many in list(range(1, 9)) * 60:
            letters = "abcd"[:chance.randrange(1, 5)]
            words = drawn_words(chance, many, chance.randrange(6), letters)
            word = chance.choice(words) if chance.random() < 0.1 else drawn_words(chance, 1, 6, letters)[0]
            told.append(self.assert_grounds(words, word) is None)
        self.assertTrue(100 < sum(told) < 400, sum(told))

    def test_all_short_words(self):
        every = [word for length in range(4) for word in itertools.product("ab", repeat=length)]
        for one, other in itertools.product(every, repeat=2):
            self.assert_grounds([one], other)
            self.assert_grounds([one, ("a",), ("b", "a")], other)

    def test_names_of_one_side_only(self):
        self.assertIsNone(grounds([("a",), ()], ("b",)))
        self.assertEqual(grounds([("b",), ("a",)], ("a",)), [("a",), ("a",)])
        self.assertIsNone(grounds([("b",)], ("a",)))
        self.assertEqual(grounds([tuple("abcdef"), ("a",)], ("a", "a")), [("a",), ("a",)])

    def test_the_empty_word(self):
        self.assertEqual(grounds([()], ()), [()])
        self.assertEqual(grounds([("a",), ()], ()), [()])
        self.assertIsNone(grounds([("a",)], ()))
        self.assertIsNone(grounds([()], ("a",)))
        self.assertEqual(grounds([(), ("a",)], ("a",)), [(), ("a",)])

    def test_words_that_are_the_same(self):
        self.assertEqual(grounds([("b",), ("a",), ("a",), ("a", "a")], ("a",)), [("a",), ("a",)])
        self.assertEqual(grounds([("b", "a"), ("a",), ("a",)], ("a",)), [("a",), ("b", "a")])
        self.assertEqual(grounds([("a", "a"), ("a",)], ("a",)), [("a", "a"), ("a", "a")])

    def test_the_words_are_those_that_were_passed(self):
        words = [("b", "c"), ("a", "c")]
        told = grounds(words, ("a", "b", "c"))
        self.assertIs(told[0], words[0])
        told.append(None)
        told[0] = None
        self.assertEqual(words, [("b", "c"), ("a", "c")])
        self.assertEqual(grounds(words, ("a", "b", "c"))[0], ("b", "c"))

    def test_none_exactly_if_something_tells_the_two_apart(self):
        chance = random.Random(17)
        for many in list(range(1, 6)) * 40:
            words = drawn_words(chance, many, 4, "abc")
            word = drawn_words(chance, 1, 4, "abc")[0]
            told = [any(holds_by_hand(one, labelling, start) for one in words)
                    for labelling in all_labellings("abc") for start in (False, True)]
            more = [any(holds_by_hand(one, labelling, start) for one in words + [word])
                    for labelling in all_labellings("abc") for start in (False, True)]
            self.assertIs(grounds(words, word) is None, told != more, (words, word))

    def test_the_longest_words(self):
        chance = random.Random(18)
        words = drawn_words(chance, 60, 60, "abcdef")
        for word in [tuple("abcdef") * 10, tuple("fedcba") * 10, ("c",) * 60, (), words[59], words[0]]:
            self.assert_grounds(words, word)
        self.assert_grounds([("abcdefgh",) * 60] * 60, ("abcdefgh",) * 60)
        long = [tuple(chance.choices("abcdef", k=54)) + tuple(chance.sample("abcdef", 6)) for _ in range(60)]
        for _ in range(20):
            self.assert_grounds(long, tuple(chance.choices("abcdef", k=54)) + tuple(chance.sample("abcdef", 6)))

    def test_more_than_six_names(self):
        self.assert_error(TooLarge, grounds, [tuple("abcdef")], ("g",))
        self.assert_error(TooLarge, grounds, [("a",), ("b",)], tuple("cdefg"))
        self.assert_error(TooLarge, grounds, [tuple("abc"), tuple("def")], ("a", "aa"))
        self.assertIsNone(grounds([tuple("abcdef")], ("f",)))
        self.assertIsNone(grounds([tuple("abc")], tuple("def")))
        self.assert_error(InvalidWords, grounds, [tuple("abc"), tuple("defg")], ("h",))
        self.assert_error(InvalidWord, grounds, [tuple("abcdef")], ("g",) * 61)

    def test_wrong_arguments(self):
        self.assert_checks(grounds, [([("a",), ()], NOT_LISTS, InvalidWords), (("a",), NOT_WORDS, InvalidWord)])
        self.assert_error(InvalidWord, grounds, [tuple("abcdef")], tuple("abcdefg"))

    def test_arguments_by_name(self):
        self.assertEqual(grounds(word=("a",), words=[("a",)]), [("a",), ("a",)])


class Shortened(Quick):
    def assert_shortened(self, words):
        told = self.assert_quick(shortened, words)
        self.assertEqual(told, shortened_by_hand(words), words)
        self.assertEqual(table_by_hand(told), table_by_hand(words), words)
        return told

    def test_the_example(self):
        self.assertEqual(shortened([("a", "b", "a"), ("b", "c"), ("b", "b", "a")]), [("b", "a"), ("b", "c")])

    def test_drawn_lists(self):
        chance = random.Random(19)
        for many in list(range(1, 12)) * 40:
            self.assert_shortened(drawn_words(chance, many, chance.randrange(6), "abcd"[:chance.randrange(1, 5)]))

    def test_all_pairs_and_threes_of_short_words(self):
        every = [word for length in range(3) for word in itertools.product("ab", repeat=length)]
        for chosen in [*itertools.product(every, repeat=2), *itertools.product(every, repeat=3)]:
            self.assert_shortened(list(chosen))

    def test_a_word_that_is_alone(self):
        self.assertEqual(shortened([()]), [()])
        self.assertEqual(shortened([("a", "b", "a", "a")]), [("b", "a")])
        self.assertEqual(shortened([("a",)] * 60), [("a",)])
        self.assertEqual(shortened([()] * 3), [()])

    def test_it_goes_from_the_last_to_the_first(self):
        # Each of the first two gives grounds for the other one, so the later one goes.
        self.assertEqual(shortened([("a", "b"), ("a", "a", "b")]), [("a", "b")])
        self.assertEqual(shortened([("b", "a"), ("c",), ("a", "b", "a"), ("c", "c")]), [("b", "a"), ("c",)])
        # What is left out gives no grounds any more.
        self.assertEqual(shortened([("a", "b"), ("a",), ("b",)]), [("a",), ("b",)])
        self.assertEqual(shortened([(), ("a", "b"), ("b",), ("a",)]), [(), ("a", "b"), ("a",)])
        self.assertEqual(shortened([(), ("b",), ("a", "b"), ("a",)]), [(), ("b",), ("a",)])

    def test_the_empty_word_among_others(self):
        self.assertEqual(shortened([(), ("a",)]), [(), ("a",)])
        self.assertEqual(shortened([("a",), (), ("a", "a")]), [("a",), ()])

    def test_the_list_is_a_new_one(self):
        words = [("a",), ("b",)]
        told = shortened(words)
        self.assertIsNot(told, words)
        told.clear()
        self.assertEqual(words, [("a",), ("b",)])

    def test_the_longest_lists(self):
        chance = random.Random(20)
        self.assert_shortened(drawn_words(chance, 60, 60, "abcdef"))
        self.assert_shortened([tuple(chance.choices("abcdef", k=54)) + tuple(chance.sample("abcdef", 6)) for _ in range(60)])
        self.assert_shortened([tuple(chance.sample("abcdef", 6)) * 10 for _ in range(60)])
        self.assert_shortened([tuple(chance.sample("abcdef", size % 6 + 1)) for size in range(60)])
        self.assert_shortened(ALL_AND_ONE)

    def test_wrong_arguments(self):
        self.assert_checks(shortened, [([("a",), ()], NOT_LISTS, InvalidWords)])

    def test_arguments_by_name(self):
        self.assertEqual(shortened(words=[("a",)]), [("a",)])


class OneWordBelowOthers(Quick):
    def test_grounds_are_found_exactly_if_the_table_stays(self):
        chance = random.Random(21)
        for many in list(range(1, 12)) * 30:
            words = drawn_words(chance, many, 8, "abcdef")
            word = drawn_words(chance, 1, 8, "abcdef")[0]
            stays = table_by_hand(words + [word]) == table_by_hand(words)
            self.assertIs(grounds(words, word) is not None, stays, (words, word))
            self.assertIs(below_by_hand(table_by_hand([word]), table_by_hand(words)), stays)


if __name__ == "__main__":
    unittest.main()
