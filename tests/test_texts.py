"""Tests of lasttouch.texts: points [8] and [11]."""

import itertools
import time
import unittest

from lasttouch.errors import InvalidProgram, InvalidText
from lasttouch.programs import is_program
from lasttouch.texts import read, write
from tests.samples import A, B, C, NOT_PROGRAMS, SKIP, STRANGE, choice, deep, wide
from tests.test_programs import small_programs

AB = ("seq", A, B)
EITHER = ("or", A, B)

TEXTS = [
    (A, "a"), (("do", "abcdefgh"), "abcdefgh"), (SKIP, "skip"), (("do", "skips"), "skips"),
    (AB, "a; b"), (("seq", A, SKIP, A), "a; skip; a"), (EITHER, "a | b"), (("or", SKIP, A, B), "skip | a | b"),
    (("rep", A), "a*"), (("rep", SKIP), "skip*"), (("rep", ("rep", A)), "a**"), (("rep", ("rep", ("rep", SKIP))), "skip***"),
    (("rep", AB), "(a; b)*"), (("rep", EITHER), "(a | b)*"), (("rep", ("rep", AB)), "(a; b)**"),
    (("seq", AB, C), "(a; b); c"), (("seq", C, AB), "c; (a; b)"), (("seq", EITHER, C), "(a | b); c"),
    (("seq", C, EITHER), "c; (a | b)"), (("seq", ("rep", A), ("rep", AB)), "a*; (a; b)*"),
    (("or", AB, C), "a; b | c"), (("or", C, AB), "c | a; b"), (("or", EITHER, C), "(a | b) | c"),
    (("or", C, EITHER), "c | (a | b)"), (("or", ("rep", A), ("rep", EITHER)), "a* | (a | b)*"),
    (("or", ("seq", EITHER, AB), ("seq", AB, EITHER)), "(a | b); (a; b) | (a; b); (a | b)"),
    (("seq", ("or", AB, EITHER), ("rep", ("or", AB, EITHER))), "(a; b | (a | b)); (a; b | (a | b))*"),
    (("rep", ("seq", ("rep", ("or", A, ("rep", B))), SKIP)), "((a | b*)*; skip)*"),
    (("seq", A, ("rep", ("or", B, SKIP)), C), "a; (b | skip)*; c"),
]

NOT_TEXTS = [
    "", " ", "\n", "\t", "(", ")", "()", "*", "**", "|", " | ", ";", "; ", "a ", " a", "a\n", "\ta", "\na", "a\t",
    "a b", "a  b", "ab c", "a;b", "a;  b", "a ;b", "a ; b", "a;\nb", "a;\tb", "a; b ", "a; b;", "a; b; ", "; a", ";a",
    "a|b", "a |b", "a| b", "a  | b", "a |  b", "a\t| b", "a |\nb", "a | ", "a |", " | a", "| a", "a | | b", "a |  | b",
    "a; ; b", "a;; b", "a; | b", "a | ; b", "a;  | b", "(a)", "(skip)", "(a*)", "(a)*", "(skip)*", "(a*)*", "((a; b))",
    "((a; b))*", "((a; b)*)*", "(a; b)", "(a | b)", "(a; b | c)", "(a; b)* ", "( a; b)*", "(a; b )*", "(a; b) *",
    "a *", "a* *", "*a", "a; *", "a | *", "a; (b)", "(a); b", "a; (b*)", "a | (b; c)", "(a; b) | c", "a | (b*)",
    "a | (b)", "((a | b)) | c", "a; ((b; c))", "(a; b", "a; b)", "(a; b))*", "((a; b)*", "(a; b)*)", "a)", "(a", ")a(",
    "a(", "a()", "a(b; c)", "(a; b)c", "(a; b)(c; d)", "(a; b)*c", "a*b", "a; b**c", "a; (; b)", "a; (b; )", "(a | )*",
    "( | a)*", "a; ()", "()*", "A", "aB", "a1", "1", "a_b", "a-b", "a.b", "a,b", "a, b", "a & b", "a + b", "a?", "a+",
    "[a; b]*", "{a; b}*", "abcdefghi", "start", "end", "a; start", "end | a", "start*", "SKIP", "Skip", "a\\", "a~", "a'b",
]


class Write(unittest.TestCase):
    def test_every_rule_on_parentheses(self):
        for program, text in TEXTS:
            with self.subTest(text):
                self.assertEqual(write(program), text)

    def test_the_example_of_the_document(self):
        program = read("a; (b | skip)*; c")
        self.assertEqual(program, ("seq", A, ("rep", ("or", B, SKIP)), C))
        both = ("or", program, ("seq", ("or", A, SKIP), B))
        self.assertEqual(write(both), "a; (b | skip)*; c | (a | skip); b")

    def test_no_program(self):
        for value in NOT_PROGRAMS:
            with self.subTest(repr(value)[:60]), self.assertRaises(InvalidProgram):
                write(value)

    def test_by_name(self):
        self.assertEqual(write(program=AB), "a; b")


class Read(unittest.TestCase):
    def assert_refused(self, value):
        began = time.perf_counter()
        with self.assertRaises(InvalidText):
            read(value)
        self.assertLess(time.perf_counter() - began, 2)

    def test_texts(self):
        for program, text in TEXTS:
            with self.subTest(text):
                self.assertEqual(read(text), program)

    def test_by_name(self):
        self.assertEqual(read(text="a; b"), AB)

    def test_there_and_back(self):
        for parts in range(1, 6):
            for program in small_programs(parts, "ab"):
                self.assertEqual(read(write(program)), program)

    def test_what_is_no_text_of_a_program(self):
        for text in NOT_TEXTS:
            with self.subTest(text):
                self.assert_refused(text)

    def test_what_is_no_text_at_all(self):
        others = [value for value in STRANGE if value not in ("a", "skip")]
        for value in others + [A, SKIP, AB, ["a"], ("a",), {"a": "b"}]:
            with self.subTest(repr(value)[:60]):
                self.assert_refused(value)

    def assert_reads_just(self, strings, texts):
        for text in strings:
            if text in texts:
                self.assertEqual(read(text), texts[text])
            else:
                self.assertRaises(InvalidText, read, text)

    def test_all_short_strings(self):
        names = ["a", "aa", "aaa", "aaaa", "aaaaa"]
        texts = {write(program): program for parts in range(1, 6) for program in small_programs(parts, names)}
        for many in range(6):
            self.assert_reads_just(map("".join, itertools.product("a;|*() ", repeat=many)), texts)

    def test_all_short_rows_of_signs(self):
        texts = {write(program): program for parts in range(1, 8) for program in small_programs(parts, "a")}
        for many in range(8):
            rows = map("".join, itertools.product(["a", "; ", " | ", "*", "(", ")"], repeat=many))
            self.assert_reads_just((text for text in rows if "aa" not in text), texts)

    def test_texts_with_one_sign_changed(self):
        for _, text in TEXTS:
            for at in range(len(text) + 1):
                for sign in ["", *" ;|*()\n\tA1"]:
                    for changed in [text[:at] + sign + text[at:], text[:at] + sign + text[at + 1:]]:
                        try:
                            program = read(changed)
                        except InvalidText:
                            continue
                        self.assertTrue(is_program(program))
                        self.assertEqual(write(program), changed)

    def test_60_parts_and_61(self):
        for kind, sign in [("seq", "; "), ("or", " | ")]:
            self.assertEqual(read(sign.join(["a"] * 59)), wide(kind, 60))
            self.assert_refused(sign.join(["a"] * 60))
        self.assert_refused("(" + "; ".join(["a"] * 59) + ")*")

    def test_as_many_stars_and_parentheses_as_can_be(self):
        stars = ("or", deep(30), deep(29))
        self.assertEqual(read("a" + "*" * 29 + " | a" + "*" * 28), stars)
        groups = ("or",) + (("or", A, A),) * 19
        self.assertEqual(read(" | ".join(["(a | a)"] * 19)), groups)
        both = AB
        for _ in range(19):
            both = ("seq", ("rep", both), A)
        self.assertEqual(read("(" * 19 + "a; b" + ")*; a" * 19), both)
        nest = EITHER
        for _ in range(28):
            nest = ("or", nest, A)
        self.assertEqual(read("(" * 28 + "a | b" + ") | a" * 28), nest)

    def test_6_names_and_7(self):
        self.assertEqual(read("a | b | c | d | e | f"), choice("abcdef"))
        self.assert_refused("a | b | c | d | e | f | g")

    def test_40_deep_and_41(self):
        self.assertEqual(read("a" + "*" * 39), deep(40))
        self.assert_refused("a" + "*" * 40)
        self.assertEqual(read("(a; b)" + "*" * 38)[0], "rep")
        self.assert_refused("(a; b)" + "*" * 39)
        self.assertEqual(read("a" + "*" * 38 + "; b")[0], "seq")
        self.assert_refused("a" + "*" * 39 + "; b")

    def test_texts_of_5000_signs(self):
        long = ["(" * 5000, ")" * 5000, "*" * 5000, "a" * 5000, " " * 5000, ";" * 5000, "|" * 5000, "\n" * 5000,
                "a" + "*" * 4999, "(a; b)" + "*" * 4994, "(" * 2500 + ")" * 2500, "(" * 2499 + "a" + ")" * 2499,
                "(" * 1000 + "a; a" + "); a" * 999, "(a" * 2500, "(a; " * 1250, "(a | " * 1000, "a | " * 1249 + "a",
                "a; " * 1666 + "a", "(a; b) | " * 555 + "a", "; " * 2500, " | " * 1666, "()" * 2500, "(*" * 2500,
                "a*" * 2500, "a; b | " * 714, "((a; b)*; c)* | " * 312, "\\" * 5000, "A" * 5000]
        for text in long:
            with self.subTest(text[:10]):
                self.assert_refused(text)


if __name__ == "__main__":
    unittest.main()
