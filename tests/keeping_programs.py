"""Programs by chance that mostly undo the last deed that stands."""

import random

from undoneall.programs import is_program


def balanced_body(chance, depth, names, letters, stands=False):
    """A body that leaves nothing, if called procedures leave nothing; stands tells whether deeds stand around it."""
    out = []
    for _ in range(chance.randrange(1, 4)):
        word = chance.choice(("pair", "pair", "pair", "call", "choose", "loop", "ensure", "return"))
        inner = [balanced_body(chance, depth - 1, names, letters, stands or word == "pair") if depth else ()
                 for _ in range(2)]
        x = chance.choice(letters)
        if word == "pair":
            out.extend([("do", x), *inner[0], ("undo", x)])
        elif word == "call":
            out.append(("call", chance.choice(names)))
        elif word == "choose":
            out.append(("choose", (inner[0], inner[1])))
        elif word == "loop" and depth:
            out.append(("loop", inner[0]))
        elif word == "ensure":
            leaving = (("return",),) * (0 if stands else chance.randrange(2))
            out.extend([("do", x), ("ensure", inner[0] + leaving, (("undo", x),))])
        elif word == "return" and not stands:
            out.append(("choose", ((("return",),), inner[0])))
    return tuple(out)


def keeping_programs(seed, count, faults=0.3):
    """Up to so many checked programs with a name of one of their procedures each, some with a statement added."""
    chance = random.Random(seed)
    for _ in range(count):
        letters = ("a", "b", "c")[:chance.randrange(1, 4)]
        names = ("main", "p", "q", "r")[:chance.randrange(1, 5)]
        procedures = []
        for name in names:
            body = balanced_body(chance, 2, names, letters)
            body = (("choose", (body, ())),) if chance.random() < 0.5 else body
            ahead = tuple(("do", chance.choice(letters)) for _ in range(chance.choice((0, 0, 0, 1, 2))))
            behind = tuple(("undo", chance.choice(letters)) for _ in range(chance.choice((0, 0, 0, 0, 1, 2))))
            procedures.append((name, ahead + body + behind))
        if chance.random() < faults:
            at = chance.randrange(len(procedures))
            name, body = procedures[at]
            cut = chance.randrange(len(body) + 1)
            procedures[at] = (name, body[:cut] + ((chance.choice(("do", "undo")), chance.choice(letters)),
                                                  ) + body[cut:])
        if is_program((letters, tuple(procedures))):
            yield (letters, tuple(procedures)), chance.choice(names)
