"""Programs by chance, and the words and lengths of their runs: by the text's statements, and by the places."""

import random
from functools import lru_cache

MOST = 3000


class TooMany(Exception):
    """There is too much to look at."""


def body_by_chance(chance, depth, second, names, letters, size):
    """A body; second tells whether it stands in a second body, where nothing returns."""
    out = []
    for _ in range(chance.randrange(size + 1)):
        word = chance.choice(("do", "undo", "do", "undo", "call", "choose", "loop", "return", "ensure"))
        inner = [body_by_chance(chance, depth - 1, second, names, letters, 2) for _ in range(3)] if depth else None
        if word in ("do", "undo"):
            out.append((word, chance.choice(letters)))
        elif word == "call":
            out.append((word, chance.choice(names)))
        elif word == "return":
            if not second and chance.random() < 0.6:
                out.append(("return",))
        elif inner is None:
            continue
        elif word == "choose":
            out.append((word, tuple(inner[:chance.randrange(2, 4)])))
        elif word == "loop":
            out.append((word, inner[0]))
        else:
            out.append((word, inner[0], body_by_chance(chance, depth - 1, True, names, letters, 2)))
    return tuple(out)


def programs_by_chance(seed, count):
    """Checked programs with a name of one of their procedures each."""
    chance = random.Random(seed)
    for _ in range(count):
        letters = ("a", "b")[:chance.randrange(1, 3)]
        names = ("main", "p", "q")[:chance.randrange(1, 4)]
        procedures = tuple((name, body_by_chance(chance, 2, False, names, letters, 3)) for name in names)
        yield (letters, procedures), chance.choice(names)


def runs_by_text(program, name, most):
    """The (word, how many places) of the ended runs that pass at most so many, by the statements."""
    bodies = dict(program[1])
    letters = program[0]

    @lru_cache(None)
    def procedure(called, budget):
        """What ended runs of a procedure leave, the end counted."""
        return frozenset((word, n + 1) for word, n, _ in body(bodies[called], budget - 1))

    @lru_cache(None)
    def body(statements, budget):
        """What a body leaves, how many places that takes, and whether the procedure is left."""
        outs = {((), 0, False)} if budget >= 0 else set()
        for one in statements:
            more = set()
            for word, n, is_left in outs:
                if is_left:
                    more.add((word, n, True))
                else:
                    more |= {(word + other, n + m, left) for other, m, left in statement(one, budget - n)}
            outs = more
            if len(outs) > MOST:
                raise TooMany
        return frozenset(outs)

    @lru_cache(None)
    def statement(one, budget):
        """The same for a statement."""
        if one[0] == "return":
            return frozenset({((), 0, True)})
        if one[0] == "ensure":
            return frozenset((word + other, n + m, is_left) for word, n, is_left in body(one[1], budget)
                             for other, m, _ in body(one[2], budget - n))
        if budget <= 0:
            return frozenset()
        if one[0] == "do":
            return frozenset({((letters.index(one[1]) + 1,), 1, False)})
        if one[0] == "undo":
            return frozenset({((-letters.index(one[1]) - 1,), 1, False)})
        if one[0] == "call":
            return frozenset((word, n + 1, False) for word, n in procedure(one[1], budget - 1))
        if one[0] == "choose":
            return frozenset((word, n + 1, is_left) for inner in one[1] for word, n, is_left in body(inner, budget - 1))
        return loop(one[1], budget)

    def loop(inner, budget):
        """The same for a loop."""
        found = {((), 1, False)}
        front = {((), 1)}
        while front:
            more = set()
            for word, n in front:
                for other, m, is_left in body(inner, budget - n):
                    if is_left:
                        found.add((word + other, n + m, True))
                    elif n + m < budget and (word + other, n + m + 1, False) not in found:
                        found.add((word + other, n + m + 1, False))
                        more.add((word + other, n + m + 1))
            front = more
            if len(found) > MOST:
                raise TooMany
        return frozenset(found)

    return frozenset((word, n) for word, n in procedure(name, most) if n <= most)


def runs_by_places(layout, index, most):
    """The (word, how many places) of the ended runs of the procedure with an index, by what places tells."""

    @lru_cache(None)
    def runs(procedure, place, n):
        """The words of the runs from a place that pass just so many."""
        kind = layout[procedure][1][place]
        if n <= 0:
            return frozenset()
        if kind[0] == "end":
            return frozenset({()} if n == 1 else ())
        if kind[0] == "letter":
            return frozenset((kind[1], *word) for word in runs(procedure, kind[2], n - 1))
        if kind[0] == "fork":
            return frozenset(word for at in kind[1] for word in runs(procedure, at, n - 1))
        found = set()
        for called in range(1, n - 1):
            for word in runs(kind[1], layout[kind[1]][0], called):
                found |= {word + other for other in runs(procedure, kind[2], n - 1 - called)}
            if len(found) > MOST:
                raise TooMany
        return frozenset(found)

    return frozenset((word, n) for n in range(1, most + 1) for word in runs(index, layout[index][0], n))
