"""Tests of what the document promises over the whole program: points [8] and [9]."""

import copy
import importlib
import itertools
import unittest

from lasttouch import errors
from lasttouch.objects import Flow, Keeper, Tracker
from lasttouch.tables import table
from lasttouch.texts import read
from tests.by_hand import Quick
from tests.samples import A, STRANGE
from tests.test_layout import INTERFACE

ONE = table(read("a; b | c"))
GRAPH = (("a", "b"), (("a", "b"), ("a", "end"), ("b", "a"), ("b", "end"), ("start", "a")))
BOOK = (("p", ("or", A, ("seq", ("do", "b"), ("call", "p")))),)
LABELLING = (("a", "gen"), ("b", "kill"), ("c", "pass"))
# A right argument for each name of an argument, and another one for single functions.
RIGHT = {
    "value": None, "program": read("a; (b | skip)*; c"), "text": "a; b", "word": ("a", "b", "a"), "labelling": LABELLING, "start": False,
    "table": ONE, "one": read("a; b"), "other": read("b | a; b"), "sight": "both", "names": ("a", "b"), "longest": 3, "family": ((), ("a",)),
    "starts": (("a",),), "words": [("b",), ("b", "a")], "graph": GRAPH, "name": "a", "book": BOOK, "depth": 2, "number": 2,
    "forward": table(read("a; b")), "backward": table(read("b; a")),
}
OTHERWISE = {
    ("residuals", "one"): table(read("a")), ("residuals", "other"): table(read("b | a; b")), ("book_table", "name"): "p",
    ("table_within", "name"): "p", ("without_calls", "name"): "p",
}
WRONG = {
    "program": "InvalidProgram", "text": "InvalidText", "word": "InvalidWord", "labelling": "InvalidLabelling", "start": "InvalidStart",
    "table": "InvalidTable", "one": "InvalidProgram", "other": "InvalidProgram", "sight": "InvalidSight", "names": "InvalidNames",
    "longest": "InvalidNumber", "family": "InvalidFamily", "starts": "InvalidNames", "words": "InvalidWords", "graph": "InvalidGraph",
    "name": "InvalidName", "book": "InvalidBook", "depth": "InvalidNumber", "number": "InvalidNumber", "forward": "InvalidTable",
    "backward": "InvalidTable",
}
CALLS = [(module, name, arguments) for module, functions in INTERFACE.items() for name, arguments in functions.items()]


def function_of(module, name):
    function = getattr(importlib.import_module("lasttouch." + module), name)
    if name == "tables":
        return lambda names: list(function(names=names))
    return function


def right_arguments(module, name, arguments):
    return [OTHERWISE.get((name, argument), OTHERWISE.get((module, argument), RIGHT[argument])) for argument in arguments]


class EveryFunction(Quick):
    def test_by_position_and_by_name(self):
        for module, name, arguments in CALLS:
            function, right = function_of(module, name), right_arguments(module, name, arguments)
            wanted = self.assert_quick(function, *right)
            for order in itertools.permutations(zip(arguments, right)):
                with self.subTest(name, order=[argument for argument, _ in order]):
                    self.assertEqual(function(**dict(order)), wanted)

    def test_arguments_stay_as_they_are(self):
        for module, name, arguments in CALLS:
            right = right_arguments(module, name, arguments)
            kept = copy.deepcopy(right)
            function_of(module, name)(*right)
            self.assertEqual(right, kept, name)

    def test_lists_that_are_returned_belong_to_the_caller(self):
        lists = []
        for module, name, arguments in CALLS:
            function, right = function_of(module, name), right_arguments(module, name, arguments)
            told = function(*right)
            if isinstance(told, list):
                lists.append(name)
                kept = copy.deepcopy(told)
                told.clear()
                self.assertEqual(function(*right), kept, name)
        self.assertEqual(sorted(lists), sorted([
            "words", "grounds", "shortened", "straight_ways", "derivation", "fewest", "apart", "words_both", "tables"]))

    def test_whether_something_holds(self):
        for module, name, arguments in CALLS:
            if name.startswith("is_"):
                function = function_of(module, name)
                if arguments == ["value"]:
                    for value in STRANGE:
                        self.assertIn(self.assert_quick(function, value), (True, False))
                        self.assertIs(type(function(value)), bool)
                else:
                    self.assertIs(type(function(*right_arguments(module, name, arguments))), bool)

    def test_the_first_wrong_argument_is_told(self):
        for module, name, arguments in CALLS:
            if arguments != ["value"]:
                function, right = function_of(module, name), right_arguments(module, name, arguments)
                for at, argument in enumerate(arguments):
                    word = "InvalidTable" if module == "residuals" else WRONG[argument]
                    for wrong in [None, {}, [], "", [None], {"a": []}]:
                        later = [wrong] * (len(arguments) - at - 1)
                        self.assert_error(getattr(errors, word), function, *right[:at], wrong, *later)
                        self.assert_error(getattr(errors, word), function, *right[:at], wrong, *right[at + 1:])


class Objects(Quick):
    def test_arguments_of_methods_by_name(self):
        flow, tracker = Flow(program=A), Tracker()
        self.assertEqual(Flow.of_text(text="a"), flow)
        self.assertIs(flow(start=False, labelling=LABELLING), True)
        self.assertIsNone(tracker.do(name="a"))
        self.assertEqual(tracker.behind(name="a"), ())
        self.assertIs(tracker.holds(start=False, labelling=LABELLING), True)
        keeper = Keeper(start=False, labelling=LABELLING)
        self.assertIsNone(keeper.do(name="a"))

    def test_arguments_stay_as_they_are(self):
        marks, word = [["a", "gen"]], ["a"]
        for call in (Flow, Flow.of_text, Tracker().do, Tracker().behind, lambda value: Keeper(value, True)):
            for value in (marks, word):
                with self.assertRaises(errors.LastTouchError):
                    call(value)
        self.assertEqual([marks, word], [[["a", "gen"]], ["a"]])


if __name__ == "__main__":
    unittest.main()
