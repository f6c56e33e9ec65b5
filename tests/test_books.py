"""Tests of lasttouch.books: points [8], [9] and [24]."""

import itertools
import random
import unittest

from lasttouch.books import book_table, is_book, put_in, table_within, without_calls
from lasttouch.equality import equal
from lasttouch.errors import InvalidBook, InvalidName, InvalidNumber, InvalidProgram, TooLarge
from lasttouch.programs import is_program, words
from lasttouch.tables import is_table, table
from lasttouch.texts import read, write
from tests.by_hand import (
    Quick, is_name_by_hand, last_by_hand, listed_program, not_these, random_program, table_by_hand, words_by_hand,
)
from tests.samples import A, B, C, NOT_PROGRAMS, SKIP, STRANGE, choice, deep, wide
from tests.test_tables import EMPTY, ONE

CALL_P, CALL_Q = ("call", "p"), ("call", "q")
EXAMPLE = (("p", ("or", C, ("seq", B, CALL_P))), ("q", CALL_Q))
SMALL = (("p", A),)
LETTERS = "klmnop"


def calling(kind, parts, call):
    """A body with so many parts that are this call, but for the whole one."""
    return (kind,) + (call,) * (parts - 1)


def deep_call(depth):
    """A body of nested reps that is so deep."""
    body = CALL_P
    for _ in range(depth - 1):
        body = ("rep", body)
    return body


# Each procedure but the last one only calls the next ones, as often as it can.
LADDER = tuple((one, ("or", SKIP, *[("call", other) for other in LETTERS[at + 1:]] * 2, ("do", "abcdef"[at])))
               for at, one in enumerate(LETTERS))
WIDE = tuple((one, ("seq",) + tuple(("or", ("call", other), ("do", name)) for other, name in zip(LETTERS, "abcdef")) * 3
              + (("rep", ("call", LETTERS[0])),)) for one in LETTERS)
NOT_BOOKS = STRANGE + [
    # no tuple of one to six pairs
    (), list(SMALL), dict(SMALL), SMALL[0], (list(SMALL[0]),), (SMALL[0] + ((),),), (SMALL[0][:1],), ((),), ("pa",), (None,),
    tuple((name, A) for name in "jklmnop"), tuple((name, A) for name in "abcdefghijklmnopqrstuvwxyz"), (SMALL,), A,
    # names
    (("P", A),), (("", A),), (("skip", A),), (("start", A),), (("abcdefghi", A),), ((None, A),), ((1, A),), ((("p",), A),), ((["p"], A),),
    # not strictly ascending
    (("q", A), ("p", A)), (("p", A), ("p", A)), (("p", A), ("p", B)), (("pa", A), ("p", A)), (("a", A), ("c", A), ("b", A)),
    # bodies
    (("p", None),), (("p", "a"),), (("p", ()),), (("p", ["do", "a"]),), (("p", ("do", "skip")),), (("p", ("seq", A)),), (("p", ("or",)),),
    (("p", ("rep", A, A)),), (("p", ("skip", A)),), (("p", A), ("q", None)), (("p", A), ("q", ("do", ["a"]))), (("p", {}),),
    # calls
    (("p", CALL_Q),), (("p", ("call", "a")),), (("p", ("call",)),), (("p", ("call", "p", "p")),), (("p", ("call", None)),),
    (("p", ("call", ["p"])),), (("p", ("call", ("p",))),), (("p", ("call", CALL_P)),), (("p", ["call", "p"]),), (("p", ("rep", CALL_Q)),),
    (("p", ("seq", CALL_P, ("call", "P"))),), (("p", ("Call", "p")),), (("p", ("call", {})),),
    # too many parts, too deep, too many names
    (("p", wide("seq", 61)),), (("p", calling("or", 61, CALL_P)),), (("p", A), ("q", wide("or", 61))), (("p", deep(41)),), (("p", deep_call(41)),),
    (("p", choice("abcdefg")),), (("p", choice("abcd")), ("q", choice("efg"))), tuple((name, ("do", name)) for name in LETTERS[:5]) + (
        ("p", choice("ab")),),
    (("p", calling("seq", 9000, CALL_P)),),
]


def words_in_body(body, inner):
    """The last occurrences of all words that the body can do, if these are those of the procedures."""
    kind = body[0]
    if kind == "do":
        return {(body[1],)}
    if kind == "skip":
        return {()}
    if kind == "call":
        return inner[body[1]]
    members = [words_in_body(member, inner) for member in body[1:]]
    if kind == "or":
        return set().union(*members)
    found = {()}
    if kind == "seq":
        for member in members:
            found = {last_by_hand(one + two) for one in found for two in member}
        return found
    while True:
        more = found | {last_by_hand(one + two) for one in found for two in members[0]}
        if more == found:
            return found
        found = more


def tables_by_hand(book, depth):
    """The tables of the words with at most so many bodies within one another, or None, for each name."""
    inner = {name: set() for name, _ in book}
    for _ in range(depth):
        inner = {name: words_in_body(body, inner) for name, body in book}
    return {name: table_by_hand(found) if found else None for name, found in inner.items()}


def random_book(chance, many, parts, letters):
    """A book of so many procedures whose bodies call them."""
    def with_calls(part):
        if part[0] in ("do", "skip"):
            return ("call", chance.choice(LETTERS[:many])) if chance.random() < share else part
        return (part[0], *map(with_calls, part[1:]))

    found = []
    for name in LETTERS[:many]:
        share = chance.choice([0, 0.2, 0.4, 0.7])
        found.append((name, with_calls(random_program(chance, chance.randrange(1, parts), letters))))
    return tuple(found)


def drawn_books():
    chance = random.Random(24)
    return [random_book(chance, chance.randrange(1, 5), 9, "abc") for _ in range(250)]


class IsBook(Quick):
    def test_what_is_none(self):
        for value in NOT_BOOKS:
            with self.subTest(repr(value)[:80]):
                self.assertIs(self.assert_quick(is_book, value), False)

    def test_what_is_one(self):
        for value in [
            EXAMPLE, SMALL, LADDER, WIDE, (("p", SKIP),), (("p", CALL_P),), (("abcdefgh", A),), tuple((name, A) for name in LETTERS),
            (("p", wide("seq", 60)), ("q", wide("or", 60))), (("p", deep(40)), ("q", deep(40))), (("p", deep_call(40)),),
            (("p", calling("seq", 60, CALL_P)),), (("p", choice("abc")), ("q", choice("def"))), (("p", choice("abcdef")), ("q", CALL_P)),
            tuple((name, ("or", ("do", name), ("call", name))) for name in LETTERS), (("a", ("do", "a")), ("b", ("call", "a"))),
        ]:
            with self.subTest(repr(value)[:80]):
                self.assertIs(self.assert_quick(is_book, value), True)

    def test_programs_and_bodies(self):
        for value in NOT_PROGRAMS:
            if value != ("call", "a"):
                self.assertIs(is_book((("a", value),)), False, value)
        self.assertIs(is_book((("a", ("call", "a")),)), True)
        self.assertIs(is_program(CALL_P), False)
        self.assertIs(is_program(("seq", A, CALL_P)), False)

    def test_strange_values_in_every_place(self):
        for value in STRANGE:
            with self.subTest(repr(value)[:60]):
                self.assertIs(is_book((value,)), False)
                self.assertIs(is_book(((value, A),)), is_name_by_hand(value))
                self.assertIs(is_book((("p", value),)), is_program(value))
                self.assertIs(is_book((("p", ("call", value)),)), False)
                self.assertIs(is_book((("a", ("seq", CALL_P, ("call", value))), ("p", A))), value == "a")

    def test_arguments_by_name(self):
        self.assertIs(is_book(value=SMALL), True)


class BookTable(Quick):
    def test_the_example(self):
        self.assertEqual(table_within(EXAMPLE, "p", 1), ((("c",),), (("c", ((),)),)))
        self.assertEqual(table_within(EXAMPLE, "p", 2), book_table(EXAMPLE, "p"))
        self.assertIsNone(book_table(EXAMPLE, "q"))

    def test_drawn_books(self):
        told = []
        for book in drawn_books():
            wanted = tables_by_hand(book, 12)
            for name, _ in book:
                found = book_table(book, name)
                self.assertEqual(found, wanted[name], book)
                self.assertTrue(found is None or is_table(found))
                told.append(found is None)
        self.assertTrue(40 < sum(told) < len(told) - 40)

    def test_each_depth(self):
        for book in drawn_books()[::2]:
            for depth in [1, 2, 3, 4, 5, 8]:
                wanted = tables_by_hand(book, depth)
                for name, _ in book:
                    self.assertEqual(table_within(book, name, depth), wanted[name], (book, name, depth))

    def test_twice_as_deep_as_there_are_procedures(self):
        chance = random.Random(25)
        for many in list(range(1, 7)) * 15:
            book = random_book(chance, many, 12, "abcdef")
            for name, _ in book:
                found = book_table(book, name)
                self.assertEqual(table_within(book, name, 2 * many), found)
                self.assertEqual(table_within(book, name, 40), found)

    def test_from_1_to_40(self):
        last = None
        for depth in range(1, 41):
            found = self.assert_quick(table_within, LADDER, "k", depth)
            self.assertEqual(found, tables_by_hand(LADDER, depth)["k"])
            self.assertTrue(last is None or len(last[1]) <= len(found[1]))
            last = found
        self.assertEqual(last, book_table(LADDER, "k"))
        self.assertEqual([len(table_within(LADDER, "k", depth)[1]) for depth in (1, 2, 3)], [1, 6, 6])

    def test_without_calls_it_is_the_table_of_the_body(self):
        chance = random.Random(26)
        for _ in range(40):
            program = listed_program(chance, chance.randrange(1, 12), "abc")
            for depth in (1, 2, 40):
                self.assertEqual(table_within((("p", program),), "p", depth), table(program))
            self.assertEqual(book_table((("p", program),), "p"), table(program))
            self.assertIsNone(table_within((("p", CALL_Q), ("q", program)), "p", 1))
            self.assertEqual(table_within((("p", CALL_Q), ("q", program)), "p", 2), table(program))

    def test_procedures_without_words(self):
        for body in [CALL_P, ("seq", A, CALL_P), ("seq", CALL_P, A), ("or", CALL_P, ("seq", CALL_P, CALL_P)), ("seq", B, A, CALL_P, B)]:
            for depth in (1, 2, 40):
                self.assertIsNone(table_within((("p", body),), "p", depth))
            self.assertIsNone(book_table((("p", body),), "p"))
            self.assertIsNone(without_calls((("p", body),), "p"))
        book = (("p", ("or", ("seq", A, CALL_Q), ("seq", CALL_Q, B), C)), ("q", CALL_Q), ("r", ("rep", ("seq", A, CALL_Q))))
        self.assertEqual(book_table(book, "p"), table(C))
        self.assertEqual(book_table(book, "r"), EMPTY)
        self.assertIsNone(book_table(book, "q"))

    def test_calls_of_one_another(self):
        book = (("p", ("or", A, ("seq", B, CALL_Q))), ("q", ("or", ("seq", C, CALL_P), ("seq", CALL_Q, CALL_P))))
        for name in "pq":
            self.assertEqual(book_table(book, name), tables_by_hand(book, 20)[name])
        self.assertEqual(book_table(book, "p"), table(read("a | b; c; a | b; c; b; c; a")))
        self.assertIsNone(book_table((("p", CALL_Q), ("q", CALL_P)), "q"))

    def test_a_name_that_is_procedure_and_action(self):
        book = (("a", ("or", ("do", "a"), ("seq", ("do", "b"), ("call", "a")))), ("b", ("do", "a")))
        self.assertEqual(book_table(book, "a"), table(read("a | b; a")))
        self.assertEqual(book_table(book, "b"), ONE)

    def test_by_words(self):
        # Short words that are put together without shortening them.
        book = (("p", ("or", ("seq", A, CALL_P, B), C)),)
        every = {("a",) * many + ("c",) + ("b",) * many for many in range(30)}
        self.assertEqual(book_table(book, "p"), table_by_hand(every))
        for depth in range(1, 5):
            every = {("a",) * many + ("c",) + ("b",) * many for many in range(depth)}
            self.assertEqual(table_within(book, "p", depth), table_by_hand(every))

    def test_the_largest_books(self):
        for depth in (1, 2, 12, 40):
            self.assertEqual(self.assert_quick(table_within, WIDE, "k", depth), table(read("a; b; c; d; e; f")))
        pairs = ("or", *[("seq", ("do", one), ("do", other)) for one, other in itertools.combinations("abcdef", 2)])
        calls = tuple(("call", name) for name in LETTERS)
        book = tuple((name, ("or", ("seq",) + (calls[at:] + calls[:at]) * 9, CALL_P)) for at, name in enumerate(LETTERS[:5]))
        book += (("p", ("or", pairs, *calls * 2)),)
        for name in LETTERS:
            found = self.assert_quick(book_table, book, name)
            self.assertIs(is_table(found), True)
            self.assertEqual(self.assert_quick(table_within, book, name, 40), found)
        self.assertIs(is_book((("p", deep_call(40)),)), True)
        self.assertEqual(self.assert_quick(book_table, (("p", deep_call(40)),), "p"), EMPTY)
        long = (("p", ("or", A, calling("seq", 58, CALL_P))),)
        self.assertEqual(self.assert_quick(book_table, long, "p"), ONE)

    def test_wrong_arguments(self):
        names = not_these(lambda value: value == "p", ["q", "P", "p ", ("p",), ["p"], "abcdefghi", A, {"p": 1}])
        for call in (book_table, without_calls):
            self.assert_checks(call, [(SMALL, NOT_BOOKS, InvalidBook), ("p", names, InvalidName)])
        numbers = not_these(lambda value: type(value) is int and 1 <= value <= 40, [0, 41, -1, True, "1", (1,), [2]])
        self.assert_checks(table_within, [
            (SMALL, NOT_BOOKS, InvalidBook), ("p", names, InvalidName), (1, numbers, InvalidNumber),
        ])

    def test_arguments_by_name(self):
        self.assertEqual(book_table(name="p", book=SMALL), ONE)
        self.assertEqual(table_within(depth=1, name="p", book=SMALL), ONE)
        self.assertEqual(without_calls(name="p", book=SMALL), A)


class WithoutCalls(Quick):
    def test_drawn_books(self):
        for book in drawn_books():
            for name, _ in book:
                found = book_table(book, name)
                program = self.assert_quick(without_calls, book, name)
                if found is None:
                    self.assertIsNone(program)
                else:
                    self.assertIs(is_program(program), True)
                    self.assertEqual(table(program), found)

    def test_too_large(self):
        # All sets of three names are starts: their words alone have more than 60 actions.
        threes = list(itertools.combinations("abcdef", 3))
        bodies = [("or", *[("seq", *[("do", name) for name in word]) for word in threes[at:at + 10]]) for at in (0, 10)]
        book = (("p", ("or", ("call", "q"), ("call", "r"))), ("q", bodies[0]), ("r", bodies[1]))
        self.assertEqual(book_table(book, "p")[0], tuple(threes))
        self.assert_error(TooLarge, without_calls, book, "p")
        self.assertEqual(table(without_calls(book, "q")), table(bodies[0]))


class PutIn(Quick):
    def test_the_example(self):
        self.assertEqual(write(put_in(read("a; b*; a"), "a", read("b | skip"))), "(b | skip); b*; (b | skip)")

    def test_by_words(self):
        chance = random.Random(27)
        for _ in range(150):
            program = listed_program(chance, chance.randrange(1, 6), "ab")
            other = listed_program(chance, chance.randrange(1, 5), "abc")
            found = put_in(program, "a", other)
            wanted = set()
            for word in words_by_hand(program, 3):
                parts = [words_by_hand(other, 3) if name == "a" else {(name,)} for name in word]
                wanted |= {sum(chosen, ()) for chosen in itertools.product(*parts) if len(sum(chosen, ())) <= 3}
            # A word of at most 3 actions may come of a longer one of program, if other can do nothing.
            if () in words_by_hand(other, 1):
                self.assertLessEqual(wanted, words_by_hand(found, 3), (program, other))
            else:
                self.assertEqual(wanted, words_by_hand(found, 3), (program, other))

    def test_every_kind_of_part(self):
        program = ("seq", A, ("or", B, A, SKIP), ("rep", A), ("seq", C, ("do", "aa")))
        told = put_in(program, "a", ("or", B, C))
        self.assertEqual(told, ("seq", ("or", B, C), ("or", B, ("or", B, C), SKIP), ("rep", ("or", B, C)), ("seq", C, ("do", "aa"))))
        self.assertEqual(put_in(A, "a", B), B)
        self.assertEqual(put_in(SKIP, "a", B), SKIP)

    def test_a_name_that_does_not_occur(self):
        for program in [A, SKIP, read("a; b*; a"), wide("seq", 60), deep(40)]:
            self.assertEqual(put_in(program, "c", wide("or", 60)), program)
            self.assertEqual(put_in(program, "abcdefgh", deep(40)), program)

    def test_the_same_name_within_other(self):
        self.assertEqual(put_in(read("a; b; a"), "a", read("a; b")), ("seq", read("a; b"), B, read("a; b")))
        self.assertEqual(put_in(A, "a", A), A)
        self.assertEqual(put_in(read("a*"), "a", read("a | skip")), ("rep", ("or", A, SKIP)))

    def test_the_bounds(self):
        self.assertEqual(put_in(wide("seq", 60), "a", B), ("seq",) + (B,) * 59)
        self.assert_error(TooLarge, put_in, wide("seq", 60), "a", ("rep", B))
        self.assertEqual(len(put_in(wide("seq", 30), "a", ("rep", B))), 30)
        self.assertEqual(put_in(("seq", A, B), "a", wide("or", 58)), ("seq", wide("or", 58), B))
        self.assert_error(TooLarge, put_in, ("seq", A, B), "a", wide("or", 59))
        self.assert_error(TooLarge, put_in, wide("seq", 60), "a", wide("or", 60))
        self.assertIs(is_program(put_in(deep(20), "a", deep(21))), True)
        self.assertEqual(put_in(deep(40), "a", B), put_in(deep(39), "a", ("rep", B)))
        self.assert_error(TooLarge, put_in, deep(20), "a", deep(22))
        self.assert_error(TooLarge, put_in, deep(40), "a", deep(40))
        self.assertEqual(put_in(choice("abc"), "a", choice("def")), ("or", choice("def"), B, C))
        self.assertEqual(put_in(choice("abcdef"), "a", choice("ab")), ("or", choice("ab"), *choice("bcdef")[1:]))

    def test_more_than_six_names_together(self):
        # Together they have seven names, whatever becomes of them.
        self.assert_error(TooLarge, put_in, choice("abcdef"), "a", ("do", "g"))
        self.assert_error(TooLarge, put_in, choice("abcdef"), "h", ("do", "g"))
        self.assert_error(TooLarge, put_in, choice("abc"), "a", choice("defg"))
        self.assert_error(InvalidProgram, put_in, choice("abcdef"), "a", choice("abcdefg"))

    def test_equal_programs(self):
        equals = [("a; b; a", "b; a"), ("a*", "skip | a"), ("b | a | b; a", "a | b"), ("(a; b)*", "skip | a; b"), ("skip | a; b | b", "skip | a; b")]
        parts = [read(text) for text in ["a; c", "b | skip", "c*", "b; a; c", "(c | a)*; b", "skip"]]
        for (one, other), part in itertools.product(equals, parts):
            one, other = read(one), read(other)
            self.assertIs(equal(put_in(one, "a", part), put_in(other, "a", part), "forward"), True)
            self.assertIs(equal(put_in(part, "b", one), put_in(part, "b", other), "forward"), True)

    def test_nothing_is_changed(self):
        program, other = read("a; b*; a"), read("b | skip")
        put_in(program, "a", other)
        self.assertEqual((program, other), (read("a; b*; a"), read("b | skip")))

    def test_wrong_arguments(self):
        self.assert_checks(put_in, [
            (A, NOT_PROGRAMS, InvalidProgram),
            ("a", not_these(is_name_by_hand, ["A", "", "end", "abcdefghi", "a ", ("a",), ["a"]]), InvalidName),
            (B, NOT_PROGRAMS + [CALL_P], InvalidProgram),
        ])
        self.assert_error(InvalidProgram, put_in, wide("seq", 60), "a", wide("seq", 61))

    def test_arguments_by_name(self):
        self.assertEqual(put_in(other=B, name="a", program=("rep", A)), ("rep", B))
        self.assertEqual(words(put_in(other=B, name="a", program=A), 1), [("b",)])


if __name__ == "__main__":
    unittest.main()
