"""Graphs of blocks: their tables, and which of their edges are seen."""

from lasttouch.bits import bit_table_of, is_in, least, table_names
from lasttouch.errors import InvalidGraph, InvalidName, NoBlocks
from lasttouch.programs import MOST_NAMES, is_ascending, is_set
from lasttouch.tables import check_table

START = "start"
END = "end"


def is_graph(value):
    """Return whether the value is a graph."""
    if not isinstance(value, tuple) or len(value) != 2 or not isinstance(value[1], tuple):
        return False
    blocks, edges = value
    if not is_set(blocks) or not 1 <= len(blocks) <= MOST_NAMES:
        return False
    if not all([_is_edge(edge, blocks) for edge in edges]) or not is_ascending(edges):
        return False
    return END in _reached(START, edges)


def graph_table(graph):
    """Return the table of the graph."""
    _check_graph(graph)
    return _table(graph)


def straight_ways(graph, name):
    """Return the list of the ways without shortcuts from the start or a block to the end."""
    _check_graph(graph)
    if name != START and name not in _blocks_on_ways(graph):
        raise InvalidName("neither start nor a block on a way from the start to the end")
    return _straight_ways(graph[1], name)


def seen_edges(graph):
    """Return the tuple of the edges with which ways without shortcuts begin."""
    _check_graph(graph)
    return _seen_edges(graph)


def left_out(graph):
    """Return the tuple of the edges without each of which the table is the same."""
    _check_graph(graph)
    blocks, edges = graph
    table = _table(graph)
    return tuple([edge for edge in edges if _table((blocks, _without(edge, edges))) == table])


def greatest_edges(graph):
    """Return the tuple of all edges of graphs with the same table and the same blocks on ways."""
    _check_graph(graph)
    return _possible_edges(_table(graph))


def fewest_edges(graph):
    """Return as few edges as possible of a graph with the same table and the same blocks on ways."""
    _check_graph(graph)
    seen = _seen_edges(graph)
    possible = _possible_edges(_table(graph))
    from_start = _reached(START, seen)
    found = list(seen)
    for group in _first_groups(_blocks_on_ways(graph), seen):
        # If an edge is possible and not seen, and another one goes on from it, then the straight
        # edge from the first to the last is possible, too. So there is one here, since some way
        # leads from what the start reaches by seen edges to the group.
        into = [edge for edge in possible if edge[0] in from_start and edge[1] in group]
        found.append(into[0])
    return tuple(sorted(found))


def graph_of(table):
    """Return the greatest graph with this table, or None."""
    check_table(table)
    blocks = table_names(table)
    if not blocks:
        raise NoBlocks("the table has no names")
    graph = (blocks, _possible_edges(table))
    return graph if _table(graph) == table else None


def _check_graph(graph):
    """Raise InvalidGraph if the argument is no graph."""
    if not is_graph(graph):
        raise InvalidGraph("not a graph")


def _is_edge(value, blocks):
    """Return whether the value is a pair that can be an edge between these blocks."""
    if not isinstance(value, tuple) or len(value) != 2:
        return False
    return value[0] in (START, *blocks) and value[1] in (*blocks, END)


def _nexts(name, edges):
    """Return the list of those to which edges lead from here."""
    return [to for origin, to in edges if origin == name]


def _reached(name, edges):
    """Return the list of all that is on ways along edges from here, this included."""
    found = [name]
    at = 0
    while at < len(found):
        found.extend([to for to in _nexts(found[at], edges) if to not in found])
        at += 1
    return found


def _blocks_on_ways(graph):
    """Return the tuple of the blocks that are on ways from the start to the end."""
    blocks, edges = graph
    from_start = _reached(START, edges)
    return tuple([name for name in blocks if name in from_start and END in _reached(name, edges)])


def _straight_ways(edges, name):
    """Return the list of the ways without shortcuts from here to the end, in ascending order."""
    found = []
    waiting = [(name,)]
    while waiting:
        way = waiting.pop()
        if way[-1] == END:
            found.append(way[1:-1])
            continue
        barred = [near for member in way[:-1] for near in _nexts(member, edges)]
        for to in _nexts(way[-1], edges):
            if to not in way and to not in barred:
                waiting.append((*way, to))
    return sorted(found)


def _table(graph):
    """Return the table of a graph; its starts are empty if no way leads from the start to the end."""
    _, edges = graph
    rows = [(name, _sets_of_ways(edges, name)) for name in _blocks_on_ways(graph)]
    return _sets_of_ways(edges, START), tuple(rows)


def _sets_of_ways(edges, name):
    """Return the tuple of the least sets of blocks on ways from here to the end that never return."""
    # A shortest way within such a set has no shortcuts. And from a way without shortcuts no block
    # can be left out: among its blocks only one edge leads on from each of them.
    return tuple(sorted([tuple(sorted(way)) for way in _straight_ways(edges, name)]))


def _seen_edges(graph):
    """Return the tuple of the seen edges of what is known to be a graph."""
    _, edges = graph
    found = []
    for name in (START, *_blocks_on_ways(graph)):
        found.extend([(name, way[0] if way else END) for way in _straight_ways(edges, name)])
    return tuple(sorted(set(found)))


def _without(edge, edges):
    """Return the tuple of the edges but this one."""
    return tuple([other for other in edges if other != edge])


def _possible_edges(table):
    """Return the tuple of all pairs that can be edges of a graph with this table."""
    every = table_names(table)
    starts, rows = bit_table_of(table, every)
    found = []
    for origin, sets in zip((START, *every), [starts, *rows]):
        if is_in(0, sets):
            found.append((origin, END))
        for place, name in enumerate(every):
            if all([is_in(bits | (1 << place), sets) for bits in least(rows[place])]):
                found.append((origin, name))
    return tuple(sorted(found))


def _first_groups(blocks, seen):
    """Return the list of the groups of blocks that reach one another by seen edges and into which
    no seen edge leads from outside."""
    found = []
    for name in blocks:
        group = [other for other in _reached(name, seen) if name in _reached(other, seen)]
        inward = [edge for edge in seen if edge[1] in group and edge[0] not in group]
        if not inward and name == min(group):
            found.append(group)
    return found
