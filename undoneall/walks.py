"""The walks of beginnings that go wrong nowhere, and the first steps that go wrong."""

from heapq import heappop, heappush

from undoneall.beginnings import MOST_LEGS, MOST_MOVES
from undoneall.errors import TooGreat

FEW = 60
BOTTOM = 0


class Walks:
    """Walks from where a deed has been done to a state in which it is the last one that stands again, or still.

    A pair (context, state) stands for them: the context is the state from which the deed is done (each state does at
    most one), or BOTTOM where nothing stands. costs tells of each pair how many moves the shortest such walk has, ways
    how it gets to its state: ("step", state ahead, how), or ("deed", state from which another deed is done, how,
    state from which it is undone, how); None for a walk of no step. holders has for each state that does a deed the
    contexts in which it is come to, ends for each context the steps (state, to, how) that undo its deed, faults the
    pairs from which a step at a place undoes something else.
    """

    def __init__(self, moves):
        self.moves = moves
        self.deeds = [_deed_of(steps) for steps in moves.steps]
        self.costs = {}
        self.ways = {}
        self.holders = {}
        self.ends = {}
        self.faults = []
        self.least = {}
        self.waiting = []
        # With few states the shortest of all beginnings that go wrong is looked for, else any.
        is_small = len(moves.steps) <= 1 + FEW
        self.put((BOTTOM, moves.begin), 0, None)
        while self.waiting and (is_small or not self.faults):
            cost, context, state = heappop(self.waiting)
            if (context, state) not in self.costs:
                self.costs[(context, state)] = cost
                self.go_on(context, state, cost)

    def put(self, pair, cost, way):
        """Put a walk to those from which the shortest is taken next."""
        if cost < self.least.get(pair, cost + 1):
            self.least[pair] = cost
            self.ways[pair] = way
            heappush(self.waiting, (cost, *pair))

    def go_on(self, context, state, cost):
        """Take the steps from the end of a shortest walk."""
        for x, to, how in self.moves.steps[state]:
            if x == 0:
                self.put((context, to), cost + cost_of(how), ("step", state, how))
            elif x > 0:
                self.do_deed(context, state)
            elif context != BOTTOM and self.deeds[context][0] == -x:
                self.ends.setdefault(context, []).append((state, to, how))
                for holder in self.holders[context]:
                    self.put_whole(holder, context, (state, to, how))
            elif how is not None:
                self.faults.append((context, state))

    def do_deed(self, context, state):
        """Do the deed of a state: it is a context of its own."""
        if state not in self.holders:
            self.holders[state] = []
            self.put((state, self.deeds[state][1]), 0, None)
        self.holders[state].append(context)
        for end in self.ends.get(state, []):
            self.put_whole(context, state, end)

    def put_whole(self, holder, context, end):
        """Put the walk that does the deed of a context, which a holder holds, and undoes it at this end."""
        state, to, how = end
        first = self.deeds[context][2]
        cost = self.costs[(holder, context)] + cost_of(first) + self.costs[(context, state)] + cost_of(how)
        self.put((holder, to), cost, ("deed", context, first, state, how))

    def contexts(self):
        """For each context how few moves lead to where its deed has been done, and the context ahead of it."""
        inner = {}
        for state, holders in self.holders.items():
            for holder in holders:
                inner.setdefault(holder, []).append(state)
        found = {}
        waiting = [(0, BOTTOM, BOTTOM)]
        while waiting:
            cost, context, ahead = heappop(waiting)
            if context not in found:
                found[context] = (cost, ahead)
                for state in inner.get(context, []):
                    more = self.costs[(context, state)] + cost_of(self.deeds[state][2])
                    heappush(waiting, (cost + more, state, context))
        return found

    def wrong_beginning(self):
        """The shortest beginning that is found to go wrong."""
        contexts = self.contexts()
        cost, context, state = min([(contexts[pair[0]][0] + self.costs[pair], *pair) for pair in self.faults])
        if cost >= MOST_LEGS + MOST_MOVES:
            raise TooGreat("the beginning that goes wrong needs too many moves")
        parts = [(None, ("move", 0))]
        while context != BOTTOM:
            parts.extend([(context, state), (None, self.deeds[context][2])])
            context, state = (contexts[context][1], context)
        parts.append((BOTTOM, state))
        rows, legs = self.moves.told_beginning(self.spelled_line(parts))
        if len(legs) > MOST_LEGS or sum([len(leg) for leg in legs]) > MOST_MOVES:
            raise TooGreat("the beginning that goes wrong needs too many moves")
        return (rows, legs)

    def spelled_line(self, parts):
        """The hows of pairs' walks and of steps (None, how), which stand from the last one to the first."""
        waiting = list(parts)
        line = []
        while waiting:
            pair = waiting.pop()
            if pair[0] is None:
                if pair[1] is not None:
                    line.append(pair[1])
                continue
            way = self.ways[pair]
            if way is not None and way[0] == "step":
                waiting.extend([(None, way[2]), (pair[0], way[1])])
            elif way is not None:
                waiting.extend([(None, way[4]), (way[1], way[3]), (None, way[2]), (pair[0], way[1])])
        return line


def cost_of(how):
    """How many moves a step needs, a step into a call counted, too; steps within a net need none."""
    return 0 if how is None else 1


def _deed_of(steps):
    """The step by which a state does a deed, None if there is none."""
    for step in steps:
        if step[0] > 0:
            return step
    return None
