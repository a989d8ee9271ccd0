"""Graphs that show that nothing goes wrong: for each place all that can stand there."""

from undoneall.kinds import is_integer, is_row, is_within

MOST_STATES = 100000


def graph_of(moves, walks):
    """The graph of moves that go wrong nowhere."""
    edges = {(0, 0, moves.begin): True}
    for state, steps in enumerate(moves.steps):
        for x, to, _ in steps:
            if x >= 0:
                edges[(state, x, to)] = True
    for context, ends in walks.ends.items():
        for end in ends:
            edges[(context, 0, end[1])] = True
    # An edge of 0 from a state to itself tells nothing.
    kept = [edge for edge in sorted(edges) if edge[1] > 0 or edge[0] != edge[2]]
    places = [(*at, moves.numbers[at]) for at in moves.places]
    chains = [(*at, moves.chains[at]) for at in moves.places if at in moves.chains]
    return (len(moves.steps), tuple(kept), tuple(places), tuple(chains))


def is_graph(moves, many_letters, thing):
    """Whether thing is a graph for these moves that meets all demands."""
    if not is_row(thing, 4, 4):
        return False
    states, edges, places, chains = thing
    if not is_within(states, 1, MOST_STATES) or not _are_edges(edges, states, many_letters):
        return False
    if not _are_places(places, states, moves) or not _are_chains(chains, states, moves):
        return False
    graph = Graph(edges)
    return graph.keeps(moves, places, chains)


def _are_edges(thing, states, many_letters):
    """Whether thing is an ascending tuple of edges of a graph with so many states, none of them to the first one."""
    if not isinstance(thing, tuple):
        return False
    for edge in thing:
        if not is_row(edge, 3, 3) or not is_within(edge[1], 0, many_letters):
            return False
        if not is_within(edge[0], 0, states - 1) or not is_within(edge[2], 1, states - 1):
            return False
    return all(thing[at] < thing[at + 1] for at in range(len(thing) - 1))


def _are_places(thing, states, moves):
    """Whether thing has just the places that are come to, each with a state."""
    if not is_row(thing, len(moves.places), len(moves.places)):
        return False
    if not all(is_row(entry, 3, 3) and _is_at(entry) and is_within(entry[2], 1, states - 1) for entry in thing):
        return False
    return [entry[:2] for entry in thing] == moves.places


def _is_at(entry):
    """Whether an entry begins with two integers."""
    return is_integer(entry[0]) and is_integer(entry[1])


def _are_chains(thing, states, moves):
    """Whether thing has just the calls that are passed, each with as many states as it needs."""
    wanted = [at for at in moves.places if at in moves.chains]
    if not is_row(thing, len(wanted), len(wanted)):
        return False
    if not all(is_row(entry, 3, 3) and _is_at(entry) for entry in thing) or [entry[:2] for entry in thing] != wanted:
        return False
    for entry in thing:
        many = len(moves.chains[entry[:2]])
        if not is_row(entry[2], many, many) or not all(is_within(state, 1, states - 1) for state in entry[2]):
            return False
    return True


class Graph:
    """The edges of a graph, by where they lead from, and what those that lead to a state tell of what stands there."""

    def __init__(self, edges):
        self.edges = {edge: True for edge in edges}
        self.silent = {}
        self.deeds = {}
        for origin, x, to in edges:
            if x == 0:
                self.silent.setdefault(to, []).append(origin)
            else:
                self.deeds.setdefault(to, []).append((origin, x))
        self.tops = {}

    def keeps(self, moves, places, chains):
        """Whether all that moves do is kept, the states of places and of the nets of calls being these."""
        states = {entry[:2]: entry[2] for entry in places}
        wanted = {moves.numbers[at]: state for at, state in states.items()}
        for procedure, place, chain in chains:
            told = moves.chains[(procedure, place)]
            if chain[0] != states[(procedure, place)]:
                return False
            wanted.update({inner: state for inner, state in zip(told[1:], chain[1:])})
        if (0, 0, wanted[moves.begin]) not in self.edges:
            return False
        for state, steps in enumerate(moves.steps):
            for x, to, _ in steps:
                if not self.is_kept(wanted[state], x, wanted[to]):
                    return False
        return True

    def is_kept(self, state, x, to):
        """Whether a step that does a letter, or nothing (0), is kept from a state to another one."""
        if x > 0:
            return (state, x, to) in self.edges
        if x == 0:
            return state == to or (state, 0, to) in self.edges
        if state not in self.tops:
            self.tops[state] = self.find_tops(state)
        tops = self.tops[state]
        if tops is None:
            return False
        return all(deed == -x and self.is_kept(origin, 0, to) for origin, deed in tops)

    def find_tops(self, state):
        """The (from, deed) of the last edges of deeds on ways to a state, None if there is a way without any."""
        known = {state: True}
        waiting = [state]
        tops = {}
        while waiting:
            at = waiting.pop()
            for top in self.deeds.get(at, []):
                tops[top] = True
            for origin in self.silent.get(at, []):
                if origin == 0:
                    return None
                if origin not in known:
                    known[origin] = True
                    waiting.append(origin)
        return list(tops)
