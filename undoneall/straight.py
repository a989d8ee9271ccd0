"""Straight texts: rules that put earlier rules together, and what is told of their words."""

from undoneall.errors import BadPlace, BadStraight
from undoneall.kinds import is_integer, is_row, is_within

MOST_LETTER = 20
MOST_RULES = 4000
LONGEST_SPELLED = 4000


def is_letter(thing):
    """Whether thing is a letter: a deed, or below 0 its undoing."""
    return is_within(thing, -MOST_LETTER, MOST_LETTER) and thing != 0


def is_straight(thing):
    """Whether thing is a straight text."""
    if not is_row(thing, 1, MOST_RULES):
        return False
    return all(_is_rule(rule, at) for at, rule in enumerate(thing))


def _is_rule(thing, at):
    """Whether thing is a rule that can stand at the index at."""
    if not is_row(thing, 1, 3) or not isinstance(thing[0], str):
        return False
    kind = thing[0]
    if kind == "none":
        return len(thing) == 1
    if kind == "letter":
        return len(thing) == 2 and is_letter(thing[1])
    if len(thing) != 3 or not is_within(thing[1], 0, at - 1):
        return False
    if kind == "pair":
        return is_within(thing[2], 0, at - 1)
    return kind == "power" and is_integer(thing[2]) and thing[2] >= 2


def want_straight(text):
    """Raise BadStraight unless text is a straight text."""
    if not is_straight(text):
        raise BadStraight("this is no straight text")


def lengths(text):
    """The lengths of the rules' words."""
    want_straight(text)
    return tuple(rule_sizes(text))


def rule_sizes(text):
    """The list of the lengths of the words of a straight text's rules."""
    sizes = []
    for rule in text:
        if rule[0] == "none":
            sizes.append(0)
        elif rule[0] == "letter":
            sizes.append(1)
        elif rule[0] == "pair":
            sizes.append(sizes[rule[1]] + sizes[rule[2]])
        else:
            sizes.append(sizes[rule[1]] * rule[2])
    return sizes


def letter_at(text, place):
    """The letter of the text's word at a place."""
    want_straight(text)
    sizes = rule_sizes(text)
    if not is_within(place, 0, sizes[-1] - 1):
        raise BadPlace("this is no place of the word")
    rule = text[-1]
    while rule[0] != "letter":
        size = sizes[rule[1]]
        if rule[0] == "power":
            place = place % size
            rule = text[rule[1]]
        elif place < size:
            rule = text[rule[1]]
        else:
            place -= size
            rule = text[rule[2]]
    return rule[1]


def spelled(text):
    """The text's word, None if it has more than 4,000 letters."""
    want_straight(text)
    sizes = rule_sizes(text)
    if sizes[-1] > LONGEST_SPELLED:
        return None
    return tuple(written_out(text, sizes))


def written_out(text, sizes):
    """The list of the letters of the last rule's word, sizes being the lengths of all rules' words."""
    if sizes[-1] == 0:
        return []
    roots = _same_words(text, sizes)
    word = []
    waiting = [roots[-1]]
    while waiting:
        rule = text[waiting.pop()]
        if rule[0] == "letter":
            word.append(rule[1])
        elif rule[0] == "pair":
            waiting.extend([roots[rule[2]], roots[rule[1]]])
        else:
            waiting.extend([roots[rule[1]]] * rule[2])
    return word


def _same_words(text, sizes):
    """For each rule the index of one with the same word that is no pair with an empty part.

    Without such pairs each step of spelling a word out adds letters, so it ends soon whatever the text is.
    """
    roots = []
    for at, rule in enumerate(text):
        if rule[0] == "pair" and sizes[rule[1]] == 0:
            roots.append(roots[rule[2]])
        elif rule[0] == "pair" and sizes[rule[2]] == 0:
            roots.append(roots[rule[1]])
        else:
            roots.append(at)
    return roots


def balance(text):
    """The pairs of each deed and how much more often it stands in the text's word than its undoing."""
    want_straight(text)
    sizes = rule_sizes(text)
    sums = [0] * (MOST_LETTER + 1)
    times = [0] * len(text)
    times[-1] = 1
    for at in reversed(range(len(text))):
        rule = text[at]
        # A rule without letters adds nothing, however often it is drawn from.
        if sizes[at] == 0:
            continue
        if rule[0] == "letter" and rule[1] > 0:
            sums[rule[1]] += times[at]
        elif rule[0] == "letter":
            sums[-rule[1]] -= times[at]
        elif rule[0] == "pair":
            times[rule[1]] += times[at]
            times[rule[2]] += times[at]
        else:
            times[rule[1]] += times[at] * rule[2]
    return tuple([(x, n) for x, n in enumerate(sums) if n != 0])
