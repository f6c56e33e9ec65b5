"""Tests of lasttouch.chains: points [8], [9], [14] and [22]."""

import itertools
import random
import unittest

from lasttouch.chains import apart, derivation, fewest, words_both
from lasttouch.errors import InvalidTable, InvalidWord, InvalidWords, TooLarge
from lasttouch.labels import run
from lasttouch.programs import is_word
from lasttouch.tables import is_table, table
from lasttouch.texts import read
from lasttouch.words import grounds
from tests.by_hand import (
    Quick, all_labellings, all_tables, antichains, draw_tables, families_of, last_by_hand, orders_by_hand, table_by_hand,
    table_forms,
)
from tests.samples import choice
from tests.test_labels import NOT_WORDS
from tests.test_tables import CHAIN, EMPTY, MANY, NOT_TABLES, ONE, WIDEST
from tests.test_words import NOT_LISTS, drawn_words

THREES = (tuple(itertools.combinations("abcdef", 3)), WIDEST[1])


def followed(lines, words):
    """The words for which the lines stand, each line by the rules of [22]."""
    found = []
    for kind, one, other, place in lines:
        if kind == "given":
            assert (other, place) == (0, 0)
            word = words[one]
        elif kind == "join":
            assert place == 0
            word = found[one] + found[other]
        elif kind == "tail":
            assert found[other][:len(found[one])] == found[one]
            assert len(found[one]) <= place <= len(found[other])
            word = found[one] + found[other][place:]
        else:
            assert (kind, other, place) == ("last", 0, 0)
            word = last_by_hand(found[one])
        numbers = {"given": [], "join": [one, other], "tail": [one, other], "last": [one]}[kind]
        assert all(0 <= number < len(found) for number in numbers)
        assert kind != "given" or 0 <= one < len(words)
        found.append(word)
    return found


def tables_of_three_names():
    return [form for form in table_forms("abc") if is_table(form)]


def some_tables():
    """All tables of two names, some of three and four, and drawn ones of five and six."""
    chance = random.Random(22)
    found = all_tables("ab") + tables_of_three_names()[::2]
    for family in families_of("abcd")[::5]:
        rows = tuple((name, table_by_hand([tuple(sorted(set(one) - {name})) for one in family
                                           if name in one and tuple(sorted(set(one) - {name})) in family])[0]) for name in "abcd")
        found.append((max(antichains(family), key=len), rows))
    return found + draw_tables(chance, 60, "abcde") + draw_tables(chance, 60, "abcdef") + [WIDEST, CHAIN, MANY, THREES, EMPTY, ONE]


class Derivation(Quick):
    def test_the_example(self):
        self.assertIsNone(derivation([("a",), ("b", "a")], ("b",)))
        told = derivation([("b", "c"), ("a", "c")], ("a", "b", "c"))
        self.assertEqual(told[0][0], "given")
        self.assertEqual(followed(told, [("b", "c"), ("a", "c")])[-1], ("a", "b", "c"))

    def assert_derived(self, words, word):
        told = self.assert_quick(derivation, words, word)
        if grounds(words, word) is None:
            self.assertIsNone(told, (words, word))
            return False
        self.assertIsInstance(told, list)
        self.assertTrue(1 <= len(told) <= 20, told)
        for line in told:
            self.assertIsInstance(line, tuple)
            self.assertEqual([type(part) for part in line], [str, int, int, int])
        self.assertEqual(followed(told, words)[-1], last_by_hand(word), (words, word))
        return True

    def test_drawn_lists(self):
        chance = random.Random(22)
        told = 0
        for many in list(range(1, 9)) * 80:
            letters = "abcd"[:chance.randrange(1, 5)]
            words = drawn_words(chance, many, chance.randrange(6), letters)
            told += self.assert_derived(words, drawn_words(chance, 1, 6, letters)[0])
        self.assertTrue(100 < told < 540, told)

    def test_all_short_words(self):
        every = [word for length in range(4) for word in itertools.product("ab", repeat=length)]
        for one, other in itertools.product(every, repeat=2):
            self.assert_derived([one], other)
            self.assert_derived([one, ("a",), ("b", "a")], other)

    def test_the_empty_word(self):
        self.assert_derived([()], ())
        self.assert_derived([("a",), ()], ())
        self.assertIsNone(derivation([("a",)], ()))

    def test_the_longest(self):
        chance = random.Random(23)
        told = 0
        for _ in range(60):
            words = [tuple(chance.choices("abcdef", k=chance.randrange(56))) + tuple(chance.sample("abcdef", chance.randrange(5)))
                     for _ in range(60)]
            told += self.assert_derived(words, tuple(chance.choices("abcdef", k=54)) + tuple(chance.sample("abcdef", 6)))
        self.assertGreater(told, 20)
        full = [tuple(chance.sample("abcdef", 6)) * 10 for _ in range(60)]
        for word in full:
            self.assertIs(self.assert_derived(full, word), True)
        self.assert_derived([("abcdefgh",) * 60] * 60, ("abcdefgh",) * 60)

    def test_each_line_could_be_added(self):
        # What the rules lead to is never seen, in whatever line it stands.
        words = [("b", "c"), ("a", "c"), ("c", "a", "b", "c")]
        for word in followed(derivation(words, ("a", "b", "c")), words):
            for labelling in all_labellings("abc"):
                for start in (False, True):
                    if run(word, labelling, start):
                        self.assertTrue(any(run(other, labelling, start) for other in words))

    def test_more_than_six_names(self):
        self.assert_error(TooLarge, derivation, [tuple("abcdef")], ("g",))
        self.assert_error(TooLarge, derivation, [("a",), ("b",)], tuple("cdefg"))
        self.assertIsNone(derivation([tuple("abc")], tuple("def")))

    def test_wrong_arguments(self):
        self.assert_checks(derivation, [([("a",), ()], NOT_LISTS, InvalidWords), (("a",), NOT_WORDS, InvalidWord)])
        self.assert_error(InvalidWord, derivation, [tuple("abcdef")], ("g",) * 61)

    def test_the_list_is_a_new_one(self):
        words = [("a",)]
        derivation(words, ("a",)).clear()
        self.assertEqual(words, [("a",)])
        self.assertEqual(len(derivation(words, ("a",))), 5)

    def test_arguments_by_name(self):
        self.assertEqual(derivation(word=("a",), words=[("a",)])[-1][0], "last")


class FewestAndApart(Quick):
    def test_the_example(self):
        self.assertEqual([len(fewest(table(read(text)))) for text in ["a; b", "(a | b | c)*", "a; b | c"]], [1, 4, 2])
        self.assertEqual(len(apart(table(read("a; b | c")))), 2)

    def assert_fewest(self, found):
        told = self.assert_quick(fewest, found)
        self.assertIsInstance(told, list)
        for word in told:
            self.assertIs(is_word(word), True, (found, word))
        self.assertEqual(table_by_hand(told), found)
        pairs = self.assert_quick(apart, found)
        self.assertIsInstance(pairs, list)
        self.assertEqual(pairs, sorted(set(pairs)), found)
        self.assertEqual(len(pairs), len(told), found)
        every = [("start", members) for members in found[0]] + [(name, members) for name, sets in found[1] for members in sets]
        self.assertLessEqual(set(pairs), set(every))
        for (one, members), (other, others) in itertools.combinations(pairs, 2):
            self.assertFalse(other != "start" and set(others) | {other} <= set(members), (found, pairs))
            self.assertFalse(one != "start" and set(members) | {one} <= set(others), (found, pairs))

    def test_many_tables(self):
        for found in some_tables():
            self.assert_fewest(found)

    def test_as_few_as_can_be(self):
        every = [word for length in range(3) for word in itertools.permutations("ab", length)]
        for found in all_tables("ab"):
            for many in range(1, len(fewest(found))):
                for words in itertools.combinations(every, many):
                    self.assertNotEqual(table_by_hand(words), found)

    def test_as_few_as_can_be_of_three_names(self):
        every = [word for length in range(4) for word in itertools.permutations("abc", length)]
        for found in tables_of_three_names()[::8]:
            # Only words whose names fit can be among them.
            fitting = [word for word in every if word in orders_by_hand(found, set(word))]
            for many in range(1, min(len(fewest(found)), 5)):
                for words in itertools.combinations(fitting, many):
                    self.assertNotEqual(table_by_hand(words), found)

    def test_no_word_has_two_pairs_apart(self):
        for found in tables_of_three_names()[::3]:
            pairs = apart(found)
            for length in range(4):
                for names in itertools.permutations("abc", length):
                    if names in orders_by_hand(found, set(names)):
                        has = {("start", tuple(sorted(names)))}
                        has |= {(name, tuple(sorted(names[at + 1:]))) for at, name in enumerate(names)}
                        self.assertLessEqual(len(has & set(pairs)), 1, (found, names))

    def test_few_and_many(self):
        self.assertEqual([len(fewest(found)) for found in [EMPTY, ONE, CHAIN, WIDEST, THREES]], [1, 1, 1, 7, 20])
        self.assertEqual(fewest(EMPTY), [()])
        self.assertEqual(apart(EMPTY), [("start", ())])
        self.assertEqual(fewest(CHAIN), [tuple("abcdef")])
        self.assertEqual(apart(WIDEST), sorted([("start", ())] + [(name, ()) for name in "abcdef"]))
        self.assertEqual(len(fewest(table(choice("abcdef")))), 6)

    def test_the_lists_are_new_ones(self):
        for call in (fewest, apart):
            told = call(WIDEST)
            kept = list(told)
            told.clear()
            self.assertEqual(call(WIDEST), kept)

    def test_wrong_arguments(self):
        for call in (fewest, apart):
            self.assert_checks(call, [(ONE, NOT_TABLES, InvalidTable)])

    def test_arguments_by_name(self):
        self.assertEqual(fewest(table=ONE), [("a",)])
        self.assertEqual(len(apart(table=ONE)), 1)


class WordsBoth(Quick):
    def test_the_example(self):
        self.assertIsNone(words_both(table(read("a")), table(read("b"))))

    def assert_words_both(self, forward, backward):
        told = self.assert_quick(words_both, forward, backward)
        if forward[0] != backward[0] or [name for name, _ in forward[1]] != [name for name, _ in backward[1]]:
            self.assertIsNone(told, (forward, backward))
            return 0
        self.assertIsInstance(told, list)
        self.assertLessEqual(len(told), 80)
        for word in told:
            self.assertIs(is_word(word), True)
            self.assertLessEqual(len(word), 12)
        self.assertEqual(table_by_hand(told), forward)
        self.assertEqual(table_by_hand([word[::-1] for word in told]), backward)
        return len(told)

    def test_all_tables_of_two_names(self):
        for forward, backward in itertools.product(all_tables("ab"), repeat=2):
            self.assert_words_both(forward, backward)

    def test_tables_of_three_names(self):
        chance = random.Random(24)
        forms = tables_of_three_names()
        for forward in forms:
            same = [form for form in forms if form[0] == forward[0]]
            for backward in chance.sample(same, min(len(same), 12)) + chance.sample(forms, 2):
                self.assert_words_both(forward, backward)

    def test_six_names(self):
        chance = random.Random(25)
        found = [WIDEST, CHAIN, MANY, THREES] + draw_tables(chance, 60, "abcdef") + draw_tables(chance, 20, "abcde")
        for forward, backward in itertools.product(found[::2], found[::7]):
            self.assert_words_both(forward, backward)
            # The same rows with starts that fit to both: all names together always do.
            if forward[1] and [name for name, _ in forward[1]] == [name for name, _ in backward[1]]:
                whole = (tuple(name for name, _ in forward[1]),)
                self.assertGreater(self.assert_words_both((whole, forward[1]), (whole, backward[1])), 0)
                self.assertGreater(self.assert_words_both((((),), forward[1]), (((),), backward[1])), 0)

    def test_many_sets(self):
        # Three sets of names behind each of the first ones, in both ways of reading.
        pairs = tuple(itertools.combinations("def", 2))
        one = (THREES[0], WIDEST[1])
        self.assert_words_both(one, one)
        rows = tuple((name, pairs) for name in "abc") + tuple((name, ((),)) for name in "def")
        other = tuple((name, ((),)) for name in "abc") + tuple((name, tuple(itertools.combinations("abc", 2))) for name in "def")
        for starts in [((),), (tuple("abcdef"),)]:
            self.assert_words_both((starts, rows), (starts, other))
            self.assert_words_both((starts, rows), (starts, rows))
            self.assert_words_both((starts, rows), (starts, WIDEST[1]))
        self.assert_words_both(MANY, MANY)
        self.assert_words_both((((),), MANY[1]), (((),), CHAIN[1]))

    def test_none(self):
        for forward, backward in [("a", "a | skip"), ("skip", "a | skip"), ("a; b", "a"), ("a | b", "a; b"), ("a | skip", "b | skip")]:
            self.assertIsNone(words_both(table(read(forward)), table(read(backward))))
            self.assertIsNone(words_both(table(read(backward)), table(read(forward))))
        self.assertEqual(words_both(EMPTY, EMPTY), [()])

    def test_more_than_six_names_together(self):
        self.assert_error(TooLarge, words_both, WIDEST, table(("do", "g")))
        self.assert_error(TooLarge, words_both, table(choice("abc")), table(choice("defg")))
        self.assertIsNone(words_both(table(choice("abc")), table(choice("def"))))

    def test_wrong_arguments(self):
        self.assert_checks(words_both, [(ONE, NOT_TABLES, InvalidTable), (ONE, NOT_TABLES, InvalidTable)])
        self.assert_error(InvalidTable, words_both, WIDEST, (((),), (("g", ()),)))

    def test_arguments_by_name(self):
        self.assertEqual(table_by_hand(words_both(backward=ONE, forward=ONE)), ONE)
        one, other = table(read("a; b")), table(read("b; a"))
        self.assertEqual(words_both(backward=other, forward=one), words_both(one, other))


if __name__ == "__main__":
    unittest.main()
