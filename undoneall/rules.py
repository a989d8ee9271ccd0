"""Rows of rules as straight texts have them, but as many as there are: put together, turned round, cut, trimmed."""

from undoneall.straight import rule_sizes

NOTHING = ("none",)


def letter_rank(x):
    """The rank of a letter among 1, -1, 2, -2 and so on."""
    return 2 * x - 2 if x > 0 else -2 * x - 1


def letter_of(rank):
    """The letter with a rank."""
    return rank // 2 + 1 if (rank & 1) == 0 else -(rank // 2) - 1


def shifted(rules, by):
    """The rules as they are with so many others ahead of them."""
    found = []
    for rule in rules:
        if rule[0] == "pair":
            found.append(("pair", rule[1] + by, rule[2] + by))
        elif rule[0] == "power":
            found.append(("power", rule[1] + by, rule[2]))
        else:
            found.append(rule)
    return found


def joined_rules(one, other):
    """Rules for the word of the first rules and behind it that of the other ones."""
    rules = list(one)
    rules.extend(shifted(other, len(one)))
    rules.append(("pair", len(one) - 1, len(rules) - 1))
    return rules


def repeated_rules(rules, k):
    """Rules for the word k times."""
    if k == 0:
        return [NOTHING]
    if k == 1:
        return list(rules)
    return [*rules, ("power", len(rules) - 1, k)]


def opposite_rules(rules):
    """Rules for the opposites of the rules' words."""
    found = []
    for rule in rules:
        if rule[0] == "letter":
            found.append(("letter", -rule[1]))
        elif rule[0] == "pair":
            found.append(("pair", rule[2], rule[1]))
        else:
            found.append(rule)
    return found


def word_rules(word):
    """Rules for a word that is written out."""
    rules = [NOTHING]
    for x in word:
        rules.append(("letter", x))
        rules.append(("pair", len(rules) - 2, len(rules) - 1))
    return rules


def cut_rules(rules, low, high):
    """Rules for the letters of the word from the place low on that are ahead of the place high."""
    found = [*rules, NOTHING]
    for at, k in pieces(rules, rule_sizes(rules), len(rules) - 1, low, high):
        whole = len(found) - 1
        if k > 1:
            found.append(("power", at, k))
            at = len(found) - 1
        found.append(("pair", whole, at))
    return found


def pieces(rules, sizes, at, low, high):
    """The letters from low to high of a rule's word, as pairs of a rule and how often its word stands there."""
    found = []
    waiting = [(at, low, high, 1)]
    while waiting:
        at, low, high, k = waiting.pop()
        rule = rules[at]
        if low >= high or k == 0:
            continue
        if low == 0 and high == sizes[at]:
            found.append((at, k))
        elif rule[0] == "pair":
            size = sizes[rule[1]]
            waiting.append((rule[2], max(low - size, 0), high - size, 1))
            waiting.append((rule[1], low, min(high, size), 1))
        else:
            waiting.extend(_power_pieces(rule[1], sizes[rule[1]], low, high)[::-1])
    return found


def _power_pieces(at, size, low, high):
    """What of a power's word lies from low to high: the end of one part, whole ones, the beginning of one."""
    first = low // size
    last = (high - 1) // size
    if first == last:
        return [(at, low - first * size, high - first * size, 1)]
    return [(at, low - first * size, size, 1), (at, 0, size, last - first - 1), (at, 0, high - last * size, 1)]


def reached(rules, at):
    """Rules for the word of the rule at an index: it and those from which it is put together."""
    used = {at: True}
    waiting = [at]
    while waiting:
        for part in rule_parts(rules[waiting.pop()]):
            if part not in used:
                used[part] = True
                waiting.append(part)
    places = {}
    kept = []
    for part in sorted(used):
        places[part] = len(kept)
        kept.append(_with_places(rules[part], places))
    return kept


def trimmed(rules):
    """Rules for the same word, none of them empty, equal to another one or of no use; none at all if it is empty."""
    firsts, found = _told_once(rules)
    if firsts[-1] is None:
        return []
    used = [False] * len(found)
    used[firsts[-1]] = True
    for at in reversed(range(len(found))):
        if used[at]:
            for part in rule_parts(found[at]):
                used[part] = True
    places = []
    kept = []
    for at, rule in enumerate(found):
        places.append(len(kept))
        if used[at]:
            kept.append(_with_places(rule, places))
    return kept


def rule_parts(rule):
    """The indexes of the rules that a rule puts together."""
    if rule[0] == "pair":
        return rule[1:]
    if rule[0] == "power":
        return rule[1:2]
    return ()


def _with_places(rule, places):
    """The rule with the indexes of its parts taken from a list."""
    if rule[0] == "pair":
        return ("pair", places[rule[1]], places[rule[2]])
    if rule[0] == "power":
        return ("power", places[rule[1]], rule[2])
    return rule


def _told_once(rules):
    """The rules without empty ones and doubles, and for each rule its index among them, None for an empty one."""
    firsts = []
    known = {}
    for rule in rules:
        parts = [firsts[at] for at in rule_parts(rule)]
        if rule[0] == "none" or (rule[0] == "power" and parts[0] is None) or parts == [None, None]:
            firsts.append(None)
        elif None in parts:
            firsts.append(parts[0] if parts[1] is None else parts[1])
        else:
            plain = _with_places(rule, firsts)
            if plain not in known:
                known[plain] = len(known)
            firsts.append(known[plain])
    return (firsts, list(known))
