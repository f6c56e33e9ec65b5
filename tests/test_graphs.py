"""Tests of lasttouch.graphs: points [8], [9] and [17]."""

import itertools
import random
import unittest

from lasttouch.errors import InvalidGraph, InvalidName, InvalidTable, NoBlocks
from lasttouch.graphs import (
    fewest_edges, graph_of, graph_table, greatest_edges, is_graph, left_out, seen_edges, straight_ways,
)
from lasttouch.tables import is_table, table, word_table
from lasttouch.texts import read
from tests.by_hand import (
    Quick, all_tables, draw_tables, is_set_by_hand, least_by_hand, table_by_hand, table_forms,
)
from tests.samples import STRANGE
from tests.test_tables import CHAIN, EMPTY, MANY, NOT_TABLES, ONE, WIDEST

EXAMPLE = (("a", "b"), (("a", "b"), ("a", "end"), ("b", "a"), ("b", "end"), ("start", "a")))
SMALL = (("a",), (("a", "end"), ("start", "a")))
STRAIGHT = (("start", "end"),)


def all_pairs(blocks):
    """All pairs that can be edges between these blocks, in ascending order."""
    return sorted(itertools.product(("start", *blocks), (*blocks, "end")))


def all_edges(blocks):
    """The graph of these blocks with all edges."""
    return tuple(blocks), tuple(all_pairs(blocks))


FULL = all_edges("abcdef")
# The blocks stand behind one another; from each block edges lead to the next one and back to all.
BACK = (tuple("abcdef"), tuple(sorted(
    [("start", "a"), ("f", "end")] + [(one, other) for one, other in itertools.product("abcdef", repeat=2)
                                      if ord(other) <= ord(one) + 1])))

NOT_GRAPHS = STRANGE + [
    # no pair of a set of blocks and a tuple of edges
    list(SMALL), SMALL + ((),), SMALL[:1], (SMALL,), (SMALL[1], SMALL[0]), (["a"], SMALL[1]), ("a", SMALL[1]), ({"a": 1}, SMALL[1]),
    (SMALL[0], list(SMALL[1])), (SMALL[0], dict(SMALL[1])), (SMALL[0], None), (None, SMALL[1]), (SMALL[0], "ab"), (SMALL[0], SMALL),
    # blocks
    ((), STRAIGHT), ((), ()), (tuple("abcdefg"), STRAIGHT), (("b", "a"), SMALL[1]), (("a", "a"), SMALL[1]), (("A",), STRAIGHT),
    (("end",), STRAIGHT), (("a", "start"), STRAIGHT), (("a", "skip"), STRAIGHT), ((None,), STRAIGHT), ((1,), STRAIGHT),
    ((("a",),), STRAIGHT), ((["a"],), STRAIGHT), (("abcdefghi",), STRAIGHT), (("",), STRAIGHT), (("a", None), SMALL[1]),
    # edges that are none
    (("a",), SMALL[1] + ("start",)), (("a",), (None, *SMALL[1])), (("a",), (["a", "end"], ("start", "a"))), (("a",), ("ab",)),
    (("a",), (("a",), *SMALL[1])), (("a",), (("a", "a", "end"), *SMALL[1])), (("a",), ((), *SMALL[1])), (("a",), ({}, *SMALL[1])),
    (("a",), (*SMALL[1], ("start", "b"))), (("a",), (*SMALL[1], ("start", "start"))), (("a",), (*SMALL[1], ("start", None))),
    (("a",), (("a", "end"), ("a", "start"), ("start", "a"))), (("a",), (("a", "end"), ("end", "a"), ("start", "a"))),
    (("a",), (("a", "end"), ("end", "end"), ("start", "a"))), (("a",), (*SMALL[1], ("start", ["a"]))),
    (("a",), (("a", "end"), ("b", "end"), ("start", "a"))), (("a",), (("a", {}), *SMALL[1])), (("a",), (("a", 0), *SMALL[1])),
    (("a",), (((), "end"), *SMALL[1])), (("a",), ((["a"], "end"), *SMALL[1])), (("a",), (("", "end"), *SMALL[1])),
    (("a",), (SMALL, *SMALL[1])), (("a",), (("a", "skip"), *SMALL[1])),
    # not strictly ascending
    (("a",), SMALL[1][::-1]), (("a",), SMALL[1][:1] * 2 + SMALL[1][1:]), (("a",), STRAIGHT * 2), (("a", "b"), EXAMPLE[1][::-1]),
    FULL[:1] + (FULL[1] + FULL[1][-1:],), (("a",), STRAIGHT * 4000), (("a",), (("a", "end"),) + STRAIGHT * 4000),
    # no way from the start to the end
    (("a",), ()), (("a",), SMALL[1][:1]), (("a",), SMALL[1][1:]), (("a", "b"), (("a", "end"), ("b", "b"), ("start", "b"))),
    (("a", "b"), (("a", "a"), ("a", "end"), ("b", "b"), ("start", "b"))), (("a", "b"), (("a", "b"), ("b", "a"), ("start", "a"))),
]


def nexts_by_hand(graph, one):
    return [to for origin, to in graph[1] if origin == one]


def sets_by_hand(graph, one):
    """All sets of the blocks on ways from here to the end that do not come back here."""
    found, waiting = set(), [(one, frozenset())]
    seen = set(waiting)
    while waiting:
        at, members = waiting.pop()
        for to in nexts_by_hand(graph, at):
            if to == "end":
                found.add(tuple(sorted(members)))
            elif to != one and (to, members | {to}) not in seen:
                seen.add((to, members | {to}))
                waiting.append((to, members | {to}))
    return found


def on_ways_by_hand(graph):
    """The blocks that are on ways from the start to the end."""
    reached = {"start"}
    for _ in graph[0]:
        reached |= {to for origin, to in graph[1] if origin in reached}
    return tuple(name for name in graph[0] if name in reached and sets_by_hand(graph, name))


def graph_table_by_hand(graph):
    """The table of the graph; None if it has no words."""
    starts = least_by_hand(sets_by_hand(graph, "start"))
    rows = tuple((name, least_by_hand(sets_by_hand(graph, name))) for name in on_ways_by_hand(graph))
    return (starts, rows) if starts else None


def words_of_graph(graph, longest):
    """All words of the graph with at most so many names."""
    found, layer = set(), [()]
    for _ in range(longest + 1):
        for word in layer:
            if ((word[-1] if word else "start"), "end") in graph[1]:
                found.add(word)
        layer = [word + (to,) for word in layer for to in nexts_by_hand(graph, word[-1] if word else "start") if to != "end"]
    return found


def straight_by_hand(graph, name):
    """The ways without shortcuts, of all rows of other blocks."""
    found = []
    others = [block for block in graph[0] if block != name]
    for many in range(len(others) + 1):
        for way in itertools.permutations(others, many):
            members = (name, *way, "end")
            steps = set(zip(members, members[1:]))
            pairs = set(itertools.combinations(members, 2))
            if pairs & set(graph[1]) == steps:
                found.append(way)
    return sorted(found)


def seen_by_hand(graph):
    """The seen edges."""
    return tuple(sorted({(name, (*way, "end")[0]) for name in ("start", *on_ways_by_hand(graph))
                         for way in straight_by_hand(graph, name)}))


def draw_graphs(chance, many, blocks):
    """So many graphs of these blocks, with few and with many edges."""
    found = []
    while len(found) < many:
        share = chance.random()
        graph = tuple(blocks), tuple(pair for pair in all_pairs(blocks) if chance.random() < share)
        if graph_table_by_hand(graph):
            found.append(graph)
    return found


ALL_OF_TWO = [graph for blocks in ["a", "b", "ab"] for bits in range(1 << len(all_pairs(blocks)))
              for graph in [(tuple(blocks), tuple(pair for at, pair in enumerate(all_pairs(blocks)) if bits & 1 << at))]
              if graph_table_by_hand(graph)]


def drawn():
    """All graphs of one and two blocks, and some of three and four."""
    chance = random.Random(17)
    return ALL_OF_TWO + draw_graphs(chance, 150, "abc") + draw_graphs(chance, 80, "abcd")


class IsGraph(Quick):
    def test_what_is_none(self):
        for value in NOT_GRAPHS:
            with self.subTest(repr(value)[:80]):
                self.assertIs(self.assert_quick(is_graph, value), False)

    def test_what_is_one(self):
        for value in [EXAMPLE, SMALL, FULL, BACK, (("a",), STRAIGHT), (tuple("abcdef"), STRAIGHT), (("abcdefgh",), STRAIGHT),
                      (("a", "b"), (("a", "b"), ("b", "b"), ("start", "end"))), (("a",), (("a", "a"), *SMALL[1])),
                      (("aa", "b"), (("aa", "b"), ("b", "end"), ("start", "aa"), ("start", "end")))]:
            self.assertIs(self.assert_quick(is_graph, value), True)

    def test_all_of_two_blocks(self):
        for blocks in ["a", "ab"]:
            pairs = all_pairs(blocks)
            for many in range(len(pairs) + 1):
                for edges in itertools.combinations(pairs, many):
                    self.assertIs(is_graph((tuple(blocks), edges)), bool(words_of_graph((tuple(blocks), edges), 2)), edges)

    def test_strange_values_in_every_place(self):
        for value in STRANGE:
            with self.subTest(repr(value)[:60]):
                self.assertIs(is_graph((value, STRAIGHT)), is_set_by_hand(value) and value != ())
                self.assertIs(is_graph((("a",), value)), False)
                self.assertIs(is_graph(((value,), STRAIGHT)), value == "a")
                self.assertIs(is_graph((("a",), (value, *STRAIGHT))), False)
                self.assertIs(is_graph((("a",), (("a", value), *SMALL[1]))), value == "a")
                self.assertIs(is_graph((("a",), ((value, "a"), *SMALL[1]))), value == "a")

    def test_arguments_by_name(self):
        self.assertIs(is_graph(value=SMALL), True)


class GraphTable(Quick):
    def test_the_example(self):
        self.assertEqual(graph_table(EXAMPLE), ((("a",),), (("a", ((),)), ("b", ((),)))))

    def test_drawn_graphs(self):
        for graph in drawn():
            self.assertEqual(graph_table(graph), graph_table_by_hand(graph), graph)
            self.assertIs(is_table(graph_table(graph)), True)

    def test_by_the_words(self):
        # A word with two times as many names as there are blocks is long enough for each after-set.
        for graph in ALL_OF_TWO:
            self.assertEqual(graph_table(graph), table_by_hand(words_of_graph(graph, 4)), graph)
        chance = random.Random(18)
        for graph in draw_graphs(chance, 60, "abc"):
            self.assertEqual(graph_table(graph), table_by_hand(words_of_graph(graph, 6)), graph)

    def test_blocks_on_no_way(self):
        edges = (("a", "c"), ("b", "a"), ("b", "end"), ("start", "a"), ("start", "end"))
        self.assertEqual(graph_table((("a", "b", "c"), edges)), EMPTY)
        edges = (("a", "end"), ("b", "a"), ("c", "c"), ("start", "a"), ("start", "c"))
        self.assertEqual(graph_table((("a", "b", "c", "d"), edges)), ONE)

    def test_six_blocks(self):
        self.assertEqual(self.assert_quick(graph_table, FULL), WIDEST)
        self.assertEqual(self.assert_quick(graph_table, BACK), (CHAIN[0], CHAIN[1]))
        for graph in draw_graphs(random.Random(19), 60, "abcdef"):
            self.assertEqual(self.assert_quick(graph_table, graph), graph_table_by_hand(graph), graph)

    def test_a_graph_of_a_program(self):
        edges = (("a", "b"), ("b", "c"), ("c", "b"), ("c", "end"), ("start", "a"), ("start", "c"))
        self.assertEqual(graph_table((("a", "b", "c"), edges)), table(read("(a; b | skip); c; (b; c)*")))

    def test_wrong_arguments(self):
        self.assert_checks(graph_table, [(SMALL, NOT_GRAPHS, InvalidGraph)])

    def test_arguments_by_name(self):
        self.assertEqual(graph_table(graph=SMALL), ONE)


class StraightWays(Quick):
    def test_the_example(self):
        self.assertEqual(straight_ways(EXAMPLE, "start"), [("a",)])

    def test_drawn_graphs(self):
        for graph in drawn():
            for name in ("start", *on_ways_by_hand(graph)):
                self.assertEqual(straight_ways(graph, name), straight_by_hand(graph, name), (graph, name))

    def test_six_blocks(self):
        for name in ("start", *"abcdef"):
            self.assertEqual(self.assert_quick(straight_ways, FULL, name), [()])
        self.assertEqual(self.assert_quick(straight_ways, BACK, "start"), [tuple("abcdef")])
        self.assertEqual(self.assert_quick(straight_ways, BACK, "c"), [tuple("def")])
        for graph in draw_graphs(random.Random(20), 20, "abcdef"):
            for name in ("start", *on_ways_by_hand(graph)):
                self.assertEqual(self.assert_quick(straight_ways, graph, name), straight_by_hand(graph, name))

    def test_shortcuts(self):
        edges = (("a", "b"), ("b", "c"), ("b", "end"), ("c", "end"), ("start", "a"), ("start", "c"))
        self.assertEqual(straight_ways((("a", "b", "c"), edges), "start"), [("a", "b"), ("c",)])
        self.assertEqual(straight_ways((("a", "b", "c"), edges), "a"), [("b",)])
        self.assertEqual(straight_ways((("a",), (*SMALL[1], ("start", "end"))), "start"), [()])
        self.assertEqual(straight_ways((("a",), (("a", "a"), *SMALL[1])), "a"), [()])
        # A shortcut from the block where the way begins counts, an edge back does not.
        edges = (("a", "b"), ("a", "c"), ("b", "a"), ("b", "c"), ("c", "end"), ("start", "a"))
        self.assertEqual(straight_ways((("a", "b", "c"), edges), "a"), [("c",)])
        self.assertEqual(straight_ways((("a", "b", "c"), edges), "b"), [("c",)])

    def test_the_list_is_a_new_one(self):
        straight_ways(EXAMPLE, "start").clear()
        self.assertEqual(straight_ways(EXAMPLE, "start"), [("a",)])

    def test_blocks_on_no_way(self):
        edges = (("a", "c"), ("b", "a"), ("b", "end"), ("start", "a"), ("start", "end"))
        for name in ["a", "b", "c"]:
            self.assert_error(InvalidName, straight_ways, (("a", "b", "c"), edges), name)
        self.assertEqual(straight_ways((("a", "b", "c"), edges), "start"), [()])
        for graph in drawn()[::5]:
            for name in set(graph[0]) - set(on_ways_by_hand(graph)):
                self.assert_error(InvalidName, straight_ways, graph, name)

    def test_wrong_arguments(self):
        wrong = [value for value in STRANGE if value != "a"] + ["b", "end", "Start", "start ", ("start",), ["a"], ("a",), {"a": "a"}]
        self.assert_checks(straight_ways, [(SMALL, NOT_GRAPHS, InvalidGraph), ("a", wrong, InvalidName)])

    def test_arguments_by_name(self):
        self.assertEqual(straight_ways(name="start", graph=SMALL), [("a",)])


class SeenEdges(Quick):
    def test_the_example(self):
        self.assertEqual(seen_edges(EXAMPLE), (("a", "end"), ("b", "end"), ("start", "a")))

    def test_drawn_graphs(self):
        for graph in drawn() + draw_graphs(random.Random(21), 20, "abcdef"):
            self.assertEqual(self.assert_quick(seen_edges, graph), seen_by_hand(graph), graph)

    def test_they_tell_all_of_the_table(self):
        for graphs in [ALL_OF_TWO, draw_graphs(random.Random(22), 300, "abc")]:
            found = {}
            for graph in graphs:
                found.setdefault(graph_table(graph), set()).add((on_ways_by_hand(graph), seen_edges(graph)))
            for told in found.values():
                self.assertEqual(len(told), 1)
            self.assertEqual(len({value for told in found.values() for value in told}), len(found))

    def test_six_blocks(self):
        self.assertEqual(seen_edges(FULL), tuple((name, "end") for name in ("a", "b", "c", "d", "e", "f", "start")))
        self.assertEqual(len(seen_edges(BACK)), 7)

    def test_no_blocks_on_ways(self):
        self.assertEqual(seen_edges((("a",), (("a", "end"), ("start", "end")))), STRAIGHT)

    def test_wrong_arguments(self):
        self.assert_checks(seen_edges, [(SMALL, NOT_GRAPHS, InvalidGraph)])

    def test_arguments_by_name(self):
        self.assertEqual(seen_edges(graph=SMALL), SMALL[1])


class LeftOut(Quick):
    def test_the_example(self):
        self.assertEqual(left_out(EXAMPLE), (("b", "a"),))

    def test_drawn_graphs(self):
        for graph in drawn():
            wanted = []
            for edge in graph[1]:
                rest = graph[0], tuple(other for other in graph[1] if other != edge)
                if graph_table_by_hand(rest) == graph_table_by_hand(graph):
                    wanted.append(edge)
            self.assertEqual(left_out(graph), tuple(wanted), graph)

    def test_six_blocks(self):
        told = self.assert_quick(left_out, FULL)
        self.assertEqual(told, tuple(edge for edge in FULL[1] if edge[1] != "end"))
        self.assertEqual(self.assert_quick(left_out, BACK), tuple(edge for edge in BACK[1] if edge not in seen_edges(BACK)))
        for graph in draw_graphs(random.Random(23), 20, "abcdef"):
            self.assert_quick(left_out, graph)

    def test_each_one_alone(self):
        edges = (("a", "b"), ("a", "end"), ("b", "a"), ("b", "end"), ("start", "a"), ("start", "b"), ("start", "end"))
        self.assertEqual(left_out((("a", "b"), edges)), (("a", "b"), ("b", "a"), ("start", "a"), ("start", "b")))

    def test_edges_on_no_way(self):
        edges = (("a", "a"), ("b", "end"), ("start", "a"), ("start", "end"))
        self.assertEqual(left_out((("a", "b"), edges)), edges[:3])
        self.assertEqual(left_out(SMALL), ())

    def test_wrong_arguments(self):
        self.assert_checks(left_out, [(SMALL, NOT_GRAPHS, InvalidGraph)])

    def test_arguments_by_name(self):
        self.assertEqual(left_out(graph=SMALL), ())


class GreatestEdges(Quick):
    def test_the_example(self):
        self.assertEqual(greatest_edges(EXAMPLE), (
            ("a", "a"), ("a", "b"), ("a", "end"), ("b", "a"), ("b", "b"), ("b", "end"), ("start", "a")))

    def test_all_of_two_blocks(self):
        together = {}
        for graph in ALL_OF_TWO:
            if on_ways_by_hand(graph) == graph[0]:
                together.setdefault(graph_table_by_hand(graph), set()).update(graph[1])
        together[EMPTY] = set(STRAIGHT)
        for graph in ALL_OF_TWO:
            self.assertEqual(greatest_edges(graph), tuple(sorted(together[graph_table_by_hand(graph)])), graph)

    def test_all_pairs_are_tried(self):
        for graph in drawn() + draw_graphs(random.Random(24), 8, "abcdef"):
            found = graph_table_by_hand(graph)
            blocks = on_ways_by_hand(graph)
            edges = {edge for edge in graph[1] if set(edge) <= {"start", *blocks, "end"}}
            wanted = tuple(pair for pair in all_pairs(blocks)
                           if graph_table_by_hand((blocks, tuple(sorted(edges | {pair})))) == found)
            self.assertEqual(self.assert_quick(greatest_edges, graph), wanted, graph)
            self.assertEqual(graph_table_by_hand((blocks, wanted)), found, graph)

    def test_no_blocks_on_ways(self):
        self.assertEqual(greatest_edges((("a",), (("a", "end"), ("start", "end")))), STRAIGHT)
        self.assertEqual(greatest_edges((tuple("abcdef"), STRAIGHT)), STRAIGHT)

    def test_six_blocks(self):
        self.assertEqual(self.assert_quick(greatest_edges, FULL), FULL[1])
        self.assertEqual(self.assert_quick(greatest_edges, BACK), BACK[1])

    def test_wrong_arguments(self):
        self.assert_checks(greatest_edges, [(SMALL, NOT_GRAPHS, InvalidGraph)])

    def test_arguments_by_name(self):
        self.assertEqual(greatest_edges(graph=SMALL), (("a", "a"), *SMALL[1]))


class FewestEdges(Quick):
    def test_the_example(self):
        self.assertEqual(len(fewest_edges(EXAMPLE)), 4)

    def assert_fewest(self, graph):
        told = self.assert_quick(fewest_edges, graph)
        blocks = on_ways_by_hand(graph)
        self.assertIsInstance(told, tuple)
        self.assertEqual(list(told), sorted(set(told)), graph)
        if blocks:
            self.assertIs(is_graph((blocks, told)), True, graph)
        self.assertEqual(graph_table_by_hand((blocks, told)), graph_table_by_hand(graph), graph)
        seen = set(seen_by_hand(graph))
        more = [edge for edge in greatest_edges(graph) if edge not in seen]
        # With one edge less, whichever they are, some block is not on a way.
        fewer = list(itertools.combinations(more, len(told) - len(seen) - 1)) if len(told) > len(seen) else []
        for chosen in random.Random(1).sample(fewer, min(len(fewer), 150)):
            self.assertNotEqual(on_ways_by_hand((blocks, tuple(sorted(seen | set(chosen))))), blocks, graph)

    def test_all_of_two_blocks(self):
        fewest = {}
        for graph in ALL_OF_TWO:
            if on_ways_by_hand(graph) == graph[0]:
                key = graph_table_by_hand(graph)
                fewest[key] = min(fewest.get(key, 9), len(graph[1]))
        fewest[EMPTY] = 1
        for graph in ALL_OF_TWO:
            self.assertEqual(len(fewest_edges(graph)), fewest[graph_table_by_hand(graph)], graph)
            self.assert_fewest(graph)

    def test_drawn_graphs(self):
        chance = random.Random(25)
        for graph in drawn() + draw_graphs(chance, 20, "abcde") + draw_graphs(chance, 20, "abcdef"):
            self.assert_fewest(graph)

    def test_groups_that_only_unseen_edges_lead_to(self):
        # From a all can be done at once; b and c, and d and e, are reached by edges that are not seen.
        edges = [("a", "end"), ("a", "b"), ("b", "c"), ("c", "b"), ("c", "d"), ("d", "e"), ("e", "d"), ("start", "a")]
        for more in [[("b", "end")], [("c", "end")], [("b", "end"), ("e", "end")], [("b", "a"), ("d", "a"), ("e", "c")]]:
            self.assert_fewest((tuple("abcde"), tuple(sorted(edges + more))))

    def test_no_blocks_on_ways(self):
        self.assertEqual(fewest_edges((("a",), (("a", "end"), ("start", "end")))), STRAIGHT)

    def test_six_blocks(self):
        self.assertEqual(len(self.assert_quick(fewest_edges, FULL)), 13)
        self.assertEqual(self.assert_quick(fewest_edges, BACK), seen_edges(BACK))

    def test_wrong_arguments(self):
        self.assert_checks(fewest_edges, [(SMALL, NOT_GRAPHS, InvalidGraph)])

    def test_arguments_by_name(self):
        self.assertEqual(fewest_edges(graph=SMALL), SMALL[1])


class GraphOf(Quick):
    def test_all_tables_of_two_names(self):
        together = {}
        for graph in ALL_OF_TWO:
            if on_ways_by_hand(graph) == graph[0]:
                together.setdefault(graph_table_by_hand(graph), set()).update(graph[1])
        for found in all_tables("ab"):
            if found in together:
                blocks = tuple(name for name, _ in found[1])
                self.assertEqual(graph_of(found), (blocks, tuple(sorted(together[found]))))
            elif found != EMPTY:
                self.assertIsNone(graph_of(found), found)
        self.assertEqual(len(together), 14)

    def test_tables_of_graphs(self):
        for graph in drawn() + draw_graphs(random.Random(26), 20, "abcdef"):
            found = graph_table_by_hand(graph)
            if found != EMPTY:
                self.assertEqual(self.assert_quick(graph_of, found), (on_ways_by_hand(graph), greatest_edges(graph)))

    def test_three_names(self):
        told = set()
        for form in table_forms("abc"):
            if is_table(form) and graph_of(form):
                self.assertEqual(graph_table_by_hand(graph_of(form)), form)
                self.assertEqual(on_ways_by_hand(graph_of(form)), ("a", "b", "c"))
                told.add(form)
        self.assertEqual(len(told), 104)
        tables = {graph_table_by_hand(graph) for graph in draw_graphs(random.Random(27), 1500, "abc")
                  if on_ways_by_hand(graph) == graph[0]}
        self.assertLessEqual(tables, told)
        self.assertGreater(len(tables), 60)

    def test_none(self):
        # A way can begin with a block and a way can end with it, but it is not done alone.
        self.assertIsNone(graph_of(table(read("a; b | b; a"))))
        self.assertIsNone(graph_of(table(read("a; b; c | c; a"))))
        # An edge leads from c to a or to b, and one from each of these to the end.
        self.assertIsNone(graph_of((((),), (("a", ((),)), ("b", ((),)), ("c", (("a", "b"),))))))
        self.assertIsNotNone(graph_of(table(read("skip | a; b"))))
        self.assertIsNotNone(graph_of(CHAIN))

    def test_six_names(self):
        self.assertEqual(self.assert_quick(graph_of, WIDEST), FULL)
        self.assertEqual(self.assert_quick(graph_of, CHAIN), BACK)
        for found in [MANY] + draw_tables(random.Random(28), 60, "abcdef"):
            if found[1]:
                told = self.assert_quick(graph_of, found)
                self.assertTrue(told is None or (is_graph(told) and graph_table_by_hand(told) == found))

    def test_no_names(self):
        self.assert_error(NoBlocks, graph_of, EMPTY)
        self.assert_error(NoBlocks, graph_of, word_table(()))

    def test_wrong_arguments(self):
        self.assert_checks(graph_of, [(ONE, NOT_TABLES, InvalidTable)])
        self.assert_error(InvalidTable, graph_of, ((), ()))

    def test_arguments_by_name(self):
        self.assertEqual(graph_of(table=ONE), (("a",), (("a", "a"), *SMALL[1])))


if __name__ == "__main__":
    unittest.main()
