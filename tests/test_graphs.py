"""Promise [22]: which graphs show that nothing goes wrong, demand by demand."""

import random
import unittest

from undoneall.errors import NotOne, TooGreat
from undoneall.places import places
from undoneall.programs import read_program
from undoneall.standing import is_keeping, keeps
from tests.keeping_programs import keeping_programs
from tests.plain_standing import graph_holds
from tests.samples import DO, NESTED, STRANGE, UNDO, as_lists, main_only, replaced
from tests.test_standing import LOCKS, looked_at, nets_of

# The places of LOCKS: 0 end, 1 undo lock, 2 call main, 3 fork, 4 do lock.
PLACES = ((0, 0, 1), (0, 1, 2), (0, 2, 3), (0, 3, 4), (0, 4, 5))
EDGES = ((0, 0, 5), (3, 0, 2), (3, 0, 5), (4, 0, 2), (4, 0, 3), (5, 0, 1), (5, 1, 4))
CHAINS = ((0, 2, (3,)),)
GRAPH = (6, EDGES, PLACES, CHAINS)
# p pushes two and pops one, so it leaves one; places of main: 0 end, 1 undo b, 2 call p, 3 do a.
CALLING = read_program("letters a b ; proc main { do a ; call p ; undo b ; } proc p { undo a ; do a ; do b ; }")


def with_edges(graph, more=(), less=()):
    """The graph with some edges more, and some less."""
    return (graph[0], tuple(sorted({*graph[1], *more} - set(less))), *graph[2:])


class OneByOne(unittest.TestCase):
    def judge(self, thing, expected, program=LOCKS):
        """is_keeping says so of it."""
        self.assertIs(is_keeping(program, "main", thing), expected)

    def test_whole(self):
        self.judge(GRAPH, True)
        self.judge((7, *GRAPH[1:]), True)
        self.judge((100000, *GRAPH[1:]), True)
        for states in (100001, 5, 0, -6, True, None, "6"):
            self.judge((states, *GRAPH[1:]), False)

    def test_one_edge_left_out(self):
        for edge in EDGES:
            self.judge(with_edges(GRAPH, less=[edge]), False)

    def test_one_edge_too_many(self):
        for edge, expected in (((1, 0, 1), True), ((5, 0, 5), True), ((2, 0, 1), True), ((1, 1, 3), True),
                               ((1, 2, 2), False), ((5, 2, 4), False), ((5, 2, 1), True), ((0, 0, 2), False),
                               ((0, 0, 3), False), ((0, 0, 1), True), ((0, 1, 2), False), ((5, 0, 2), False),
                               ((5, 0, 4), False), ((0, 0, 0), False), ((5, 0, 0), False), ((0, 2, 0), False),
                               ((6, 0, 1), False), ((5, 0, 6), False), ((5, 3, 1), False), ((5, -1, 1), False),
                               ((5, True, 1), False), ((-1, 0, 1), False), ((0, False, 1), False), ((5, 0, None),
                                                                                                    False)):
            edges = tuple(sorted((*EDGES, edge), key=repr)) if None in edge else tuple(sorted((*EDGES, edge)))
            self.judge((6, edges, PLACES, CHAINS), expected)

    def test_states_that_nothing_reads(self):
        self.judge((9, *with_edges(GRAPH, [(6, 2, 7), (7, 0, 8)])[1:]), True)
        # Their edges count as all others: deeds that lead to where an undoing is looked at.
        self.judge((9, *with_edges(GRAPH, [(6, 2, 7), (7, 0, 2)])[1:]), False)
        self.judge((9, *with_edges(GRAPH, [(6, 1, 7), (7, 0, 2)])[1:]), False)
        self.judge((9, *with_edges(GRAPH, [(6, 1, 7), (7, 0, 2), (6, 0, 1)])[1:]), True)
        self.judge((9, *with_edges(GRAPH, [(1, 1, 7), (7, 0, 2)])[1:]), True)

    def test_edges_out_of_sequence_and_doubles(self):
        for at in range(len(EDGES)):
            self.judge((6, EDGES[:at + 1] + EDGES[at:], PLACES, CHAINS), False)
            if at:
                self.judge((6, EDGES[:at - 1] + (EDGES[at], EDGES[at - 1]) + EDGES[at + 1:], PLACES, CHAINS), False)
        self.judge((6, EDGES[::-1], PLACES, CHAINS), False)

    def test_places(self):
        for at, place in enumerate(PLACES):
            self.judge((6, EDGES, PLACES[:at] + PLACES[at + 1:], CHAINS), False)
            self.judge((6, EDGES, PLACES[:at + 1] + PLACES[at:], CHAINS), False)
            for state in (0, 6, -1, True, None):
                self.judge((6, EDGES, (*PLACES[:at], (*place[:2], state), *PLACES[at + 1:]), CHAINS), False)
        self.judge((6, EDGES, PLACES[::-1], CHAINS), False)
        # The undoing may share the state of the call, but not that of the end.
        self.judge((6, EDGES, (PLACES[0], (0, 1, 3), *PLACES[2:]), CHAINS), True)
        self.judge((6, EDGES, (PLACES[0], (0, 1, 1), *PLACES[2:]), CHAINS), False)
        self.judge((6, EDGES, (*PLACES, (0, 5, 1)), CHAINS), False)
        self.judge((6, EDGES, ((False, 0, 1), *PLACES[1:]), CHAINS), False)

    def test_places_that_are_not_come_to(self):
        program = main_only(("return",), DO)
        _, graph = keeps(program, "main")
        self.assertEqual(graph[2], ((0, 0, graph[2][0][2]),))
        self.judge(graph, True, program)
        self.judge((3, ((0, 0, 1), (2, 1, 1)), ((0, 0, 1), (0, 1, 2)), ()), False, program)

    def test_chains(self):
        for chains in ((), (*CHAINS, *CHAINS), ((0, 2, ()),), ((0, 2, (2,)),), ((0, 2, (3, 3)),), ((0, 2, (0,)),),
                       ((0, 2, (6,)),), ((0, 2, 3),), ((0, 2, [3]),), ((0, 1, (2,)), (0, 2, (3,))), ((0, 1, (2,)),),
                       ((0, 2, (True,)),), ((0, True, (3,)),), ((0, 2),), ((0, 2, (3,), 0),)):
            self.judge((6, EDGES, PLACES, chains), False)

    def test_several_places_with_one_state(self):
        # The fork, the call and the undoing stand for the same words; so do the begin and the end.
        states = (1, 2, 2, 2, 1)
        shared = tuple((0, at, state) for at, state in enumerate(states))
        self.judge((3, ((0, 0, 1), (1, 1, 2), (2, 0, 1)), shared, ((0, 2, (2,)),)), True)
        self.judge((3, ((0, 0, 1), (1, 0, 1), (1, 1, 2), (2, 0, 1), (2, 0, 2)), shared, ((0, 2, (2,)),)), True)
        self.judge((3, ((0, 0, 1), (1, 0, 2), (1, 1, 2), (2, 0, 1)), shared, ((0, 2, (2,)),)), False)
        self.judge((3, ((0, 0, 1), (1, 1, 2)), shared, ((0, 2, (2,)),)), False)
        # All in one state: nothing stands there, too.
        one = tuple((0, at, 1) for at in range(5))
        self.judge((2, ((0, 0, 1), (1, 1, 1)), one, ((0, 2, (1,)),)), False)

    def test_undoings_within_nets(self):
        _, graph = keeps(CALLING, "main")
        self.judge(graph, True, CALLING)
        chain = graph[3][0][2]
        self.assertEqual((len(graph[3]), len(chain)), (1, 2))
        self.assertEqual(chain[0], {entry[:2]: entry[2] for entry in graph[2]}[(0, 2)])
        for edge in graph[1]:
            self.judge(with_edges(graph, less=[edge]), False, CALLING)
        for other in ((chain[0],), (*chain, chain[-1]), (chain[1], chain[0]), (chain[0], chain[0]), ()):
            self.judge((*graph[:3], ((*graph[3][0][:2], other),)), False, CALLING)

    def test_nothing_keeps_what_goes_wrong(self):
        program = main_only(DO, UNDO, UNDO)
        states = tuple((0, at, 4 - at) for at in range(4))
        for more in ((), ((0, 1, 2),), ((0, 1, 3),), ((0, 0, 4), (0, 0, 3))):
            edges = tuple(sorted({(0, 0, 1), (1, 1, 2), (1, 0, 3), (0, 0, 4), *more}))
            self.judge((5, edges, states, ()), False, program)

    def test_graphs_of_one_state(self):
        for program in (main_only(), LOCKS):
            for edges in ((), ((0, 0, 0),), ((0, 0, 1),)):
                for found in ((), ((0, 0, 0),), ((0, 0, 1),)):
                    self.judge((1, edges, found, ()), False, program)
        self.judge((2, ((0, 0, 1),), ((0, 0, 1),), ()), True, main_only())
        self.judge((2, (), ((0, 0, 1),), ()), False, main_only())
        self.judge((2, ((0, 1, 1),), ((0, 0, 1),), ()), False, main_only())

    def test_deeds_that_the_program_does_not_have(self):
        for x, expected in ((1, True), (2, False), (20, False), (0, True)):
            edges = tuple(sorted({(0, 0, 1), (1, x, 2)}))
            self.judge((3, edges, ((0, 0, 1),), ()), expected, main_only())

    def test_ways_of_several_edges_of_nothing(self):
        # Between the deed and its undoing lie three states, and one that the deed has elsewhere.
        program = main_only(DO, ("loop", ()), ("choose", ((), ())), UNDO)
        _, graph = keeps(program, "main")
        self.judge(graph, True, program)
        state = {entry[1]: entry[2] for entry in graph[2]}
        begin, behind = places(program)[0][0], places(program)[0][1][places(program)[0][0]][2]
        many = graph[0]
        other = (many + 1, *with_edges(graph, [(many, 1, state[behind])])[1:])
        self.judge(other, False, program)
        self.judge(with_edges(other, [(many, 0, state[0])]), True, program)
        self.judge(with_edges(other, [(many, 0, state[0]), (0, 0, state[behind])]), False, program)
        self.judge(with_edges(graph, [(0, 1, state[behind])]), False, program)
        self.judge(with_edges(graph, [(0, 1, state[behind]), (0, 0, state[0])]), True, program)
        self.assertIn((state[begin], 1, state[behind]), graph[1])

    def test_many_states(self):
        edges = tuple((at, 0, at + 1) for at in range(6, 99999))
        self.judge((100000, tuple(sorted((*EDGES, *edges))), PLACES, CHAINS), True)
        self.judge((100000, tuple(sorted((*EDGES, *edges, (99999, 0, 2)))), PLACES, CHAINS), True)
        self.judge((100000, tuple(sorted((*EDGES, *edges, (6, 1, 7), (99999, 0, 2)))), PLACES, CHAINS), False)
        self.judge((100000, tuple(sorted((*EDGES, *edges, (0, 0, 6), (99999, 0, 2)))), PLACES, CHAINS), False)


class Objects(unittest.TestCase):
    def test_any_object(self):
        for thing in (*STRANGE, *NESTED, GRAPH[:3], (*GRAPH, ()), *as_lists(GRAPH)):
            self.assertIs(is_keeping(LOCKS, "main", thing), False)
        for part in (None, True, False, "a", -1, 7, [], 10 ** 30):
            for thing in replaced(GRAPH, part):
                # Seven states instead of six are let.
                self.assertIs(is_keeping(LOCKS, "main", thing), thing == (7, *GRAPH[1:]))

    def test_errors_whatever_is_judged(self):
        several = read_program("letters a ; proc main { call p ; } proc p { choose { do a ; } or { } }")
        sizes = tuple((name, (("call", after),) * 25) for name, after in zip("bcde", "cdef"))
        great = (("a",), (("main", (("call", "b"),)), *sizes, ("f", (DO,))))
        for thing in (None, GRAPH, (1, (), (), ())):
            with self.assertRaises(NotOne) as caught:
                is_keeping(several, "main", thing)
            self.assertEqual(caught.exception.name, "p")
            with self.assertRaises(TooGreat):
                is_keeping(great, "main", thing)

    def test_changed_by_chance(self):
        chance = random.Random(61)
        seen = [0, 0]
        for program, name in keeping_programs(62, 250, 0):
            try:
                told = keeps(program, name)
            except NotOne:
                continue
            if told[0] == "wrong":
                continue
            layout, index, called, _ = looked_at(program, name)
            nets = nets_of(program, called)
            for _ in range(8):
                graph = self.changed(chance, told[1], len(program[0]))
                expected = graph_holds(layout, index, nets, len(program[0]), graph)
                self.assertIs(is_keeping(program, name, graph), expected)
                seen[expected] += 1
        self.assertGreater(min(seen), 100)

    def changed(self, chance, graph, letters):
        """The graph with a change by chance."""
        states, edges, entries, chains = graph
        kind = chance.randrange(6)
        if kind == 0:
            edges = list(edges)
            edges.pop(chance.randrange(len(edges)))
        elif kind < 4:
            edge = (chance.randrange(states), chance.choice((0, 0, chance.randrange(letters + 1))),
                    chance.randrange(1, states))
            edges = sorted({*edges, edge})
        elif kind == 4 or not chains:
            at = chance.randrange(len(entries))
            entries = (*entries[:at], (*entries[at][:2], chance.randrange(1, states)), *entries[at + 1:])
        else:
            at = chance.randrange(len(chains))
            chain = list(chains[at][2])
            chain[chance.randrange(len(chain))] = chance.randrange(1, states)
            chains = (*chains[:at], (*chains[at][:2], tuple(chain)), *chains[at + 1:])
        return (states, tuple(edges), entries, chains)


if __name__ == "__main__":
    unittest.main()
