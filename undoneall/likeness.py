"""How far the words of two rows of rules are the same."""

from undoneall.rules import joined_rules, pieces
from undoneall.straight import rule_sizes
from undoneall.turns import all_turns, symbol_rules


def common_length(one, other):
    """How many letters the words of two rows of rules have in common from their beginnings on.

    The shrunk text of both words, one behind the other, makes the same symbols of the same letters, but for some at the
    borders: so both words are gone through by symbols, and only where these are unlike by what they are made of.
    """
    sizes = (rule_sizes(one)[-1], rule_sizes(other)[-1])
    most = min(sizes)
    if most == 0:
        return 0
    letters, turns = all_turns(joined_rules(one, other), None)
    text = symbol_rules(letters, turns)
    lengths = rule_sizes(text)
    whole = len(text) - 1
    left = [(whole, 1)]
    right = pieces(text, lengths, whole, sizes[0], lengths[-1])[::-1]
    common = 0
    while common < most:
        x, many = left[-1]
        y, more = right[-1]
        if x == y:
            both = min(many, more)
            common += both * lengths[x]
            take(left, both)
            take(right, both)
        elif text[x][0] == "letter" and text[y][0] == "letter":
            return common
        else:
            open_last(text, left if x > y else right)
    return most


def take(row, many):
    """Take so many words of the last rule from the end of a row of pairs of a rule and how often it stands."""
    at, k = row.pop()
    if k > many:
        row.append((at, k - many))


def open_last(text, row):
    """Put what the last rule is made of in the place of the last word of a row that is turned round."""
    rule = text[row[-1][0]]
    take(row, 1)
    if rule[0] == "pair":
        row.extend([(rule[2], 1), (rule[1], 1)])
    else:
        row.append((rule[1], rule[2]))
