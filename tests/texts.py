"""Straight texts that several tests use."""

import random

from tests.plain import words_of

NONE = ("none",)
A = ("letter", 1)
B = ("letter", 2)
UNDO_A = ("letter", -1)
EMPTY = ((NONE,), (A, NONE), (NONE, ("power", 0, 10 ** 40)), (A, NONE, ("pair", 1, 1), ("pair", 1, 2)))
NO_TEXTS = ((), None, 0, "none", [A], (A, B, ("pair", 0, 2)), (("letter", 0),), (("letter", 21),), (("letter", True),),
            (A, ("power", 0, 1)), (A, ("power", 0, True)), ("none",), (["none"],), (A,) * 4001, (A, ("pair", 0, -1)))


def doubled(many):
    """So many rules, the last one's word being 1, 2 ** (many - 1) times."""
    return (A, *(("pair", at, at) for at in range(many - 1)))


def fibonacci(many):
    """So many rules, each from the third on the two ahead of it put together, the last one first."""
    return (A, B, *(("pair", at - 1, at - 2) for at in range(2, many)))


def thue(many):
    """Pairs of rules, each the two ahead of it in one order and in the other, so many pairs."""
    rules = [A, B]
    for _ in range(many):
        at = len(rules)
        rules.extend([("pair", at - 2, at - 1), ("pair", at - 1, at - 2)])
    return tuple(rules)


def ruler(many, letters):
    """The word so far, a letter, and the word so far again, so many times, the letters by turns."""
    rules = [("letter", x) for x in letters]
    at = 0
    for step in range(many):
        rules.append(("pair", at, step % len(letters)))
        rules.append(("pair", len(rules) - 1, at))
        at = len(rules) - 1
    return tuple(rules)


def towers(many, k):
    """Powers of powers with a letter behind each, so many of them."""
    rules = [A, B, ("pair", 0, 1)]
    for step in range(many):
        rules.append(("power", len(rules) - 1, k))
        rules.append(("pair", len(rules) - 1, step % 2))
    return tuple(rules)


def behind(one, other):
    """A text of the words of two texts, one behind the other."""
    rules = list(one)
    for rule in other:
        if rule[0] == "pair":
            rule = ("pair", rule[1] + len(one), rule[2] + len(one))
        elif rule[0] == "power":
            rule = ("power", rule[1] + len(one), rule[2])
        rules.append(rule)
    return (*rules, ("pair", len(one) - 1, len(rules) - 1))


def turned(text):
    """A text of the opposite of a text's word."""
    kinds = {"none": lambda rule: rule, "letter": lambda rule: ("letter", -rule[1]),
             "pair": lambda rule: ("pair", rule[2], rule[1]), "power": lambda rule: rule}
    return tuple(kinds[rule[0]](rule) for rule in text)


def texts_by_chance(seed, count, letters=(1, -1, 2, -2, 3), most=300):
    """Texts with words that can be written out."""
    chance = random.Random(seed)
    found = []
    while len(found) < count:
        rules = [("letter", chance.choice(letters))]
        for at in range(1, chance.randrange(1, 16)):
            kind = chance.choice(("none", "letter", "letter", "pair", "pair", "pair", "pair", "power"))
            near = chance.randrange(max(0, at - 4), at)
            if kind == "none":
                rules.append(NONE)
            elif kind == "letter":
                rules.append(("letter", chance.choice(letters)))
            elif kind == "pair":
                parts = [near, chance.randrange(at)]
                chance.shuffle(parts)
                rules.append(("pair", *parts))
            else:
                rules.append(("power", near, chance.randrange(2, 5)))
        if max(len(word) for word in words_of(rules)) <= most:
            found.append(tuple(rules))
    return found


def great_texts(seed, count, most=40):
    """Texts by chance whose words are mostly too long to be written out."""
    chance = random.Random(seed)
    found = []
    for _ in range(count):
        rules = [("letter", x) for x in range(1, chance.choice((2, 3, 3, 4, 6)))]
        letters = len(rules)
        recent = [chance.randrange(letters) for _ in range(3)]
        times = chance.choice(((2,), (2, 3), (2, 5, 10 ** 6), (3, 10 ** 20)))
        powers = chance.choice((0, 0, 0.2, 0.5))
        back = chance.choice((2, 3, 6))
        while len(rules) < most:
            if chance.random() < powers:
                rules.append(("power", chance.choice(recent[-back:]), chance.choice(times)))
            else:
                parts = [chance.choice(recent[-back:]), chance.choice(recent[-back:] + [chance.randrange(letters)])]
                chance.shuffle(parts)
                rules.append(("pair", *parts))
            recent.append(len(rules) - 1)
        found.append(tuple(rules))
    return found
