"""How far the words of two rows of rules are the same."""

from undoneall.rules import joined_rules, pieces, trimmed
from undoneall.straight import rule_sizes
from undoneall.turns import all_turns, symbol_rules


def common_length(one, other):
    """How many letters the words of two rows of rules have in common from their beginnings on."""
    size = rule_sizes(one)[-1]
    most = min(size, rule_sizes(other)[-1])
    if most == 0:
        return 0
    kept = trimmed(joined_rules(one, other))
    # Words that are put together alike are soon seen to be the same; others may take far too many steps.
    found = walked(kept, [(kept[-1][1], 1)], [(kept[-1][2], 1)], most, 2 * len(kept))
    if found is not None:
        return found
    # The shrunk text of both words, one behind the other, has the same symbols for the same letters, but for some at
    # the borders: so there it takes few steps.
    letters, turns = all_turns(kept, None)
    text = symbol_rules(letters, turns)
    whole = len(text) - 1
    sizes = rule_sizes(text)
    return walked(text, [(whole, 1)], pieces(text, sizes, whole, size, sizes[-1])[::-1], most, None)


def walked(text, left, right, most, steps):
    """How many letters of most are the same in two rows, None if that takes more steps; None sets no bound to them.

    A row is told from its end to its beginning by pairs of a rule and how often its word stands there. Where it begins
    with unlike rules, the one that may have the other as its beginning is opened.
    """
    sizes = rule_sizes(text)
    common = 0
    done = 0
    while common < most:
        x, many = left[-1]
        y, more = right[-1]
        if x == y:
            both = min(many, more)
            common += both * sizes[x]
            take(left, both)
            take(right, both)
        elif text[x][0] == "letter" and text[y][0] == "letter":
            return common
        elif done == steps:
            return None
        else:
            done += 1
            is_left = text[y][0] == "letter" or (text[x][0] != "letter" and x > y)
            open_last(text, left if is_left else right)
    return most


def take(row, many):
    """Take so many words of the last rule from the end of a row."""
    at, k = row.pop()
    if k > many:
        row.append((at, k - many))


def open_last(text, row):
    """Put what the last rule is made of in the place of the last word of a row."""
    rule = text[row[-1][0]]
    take(row, 1)
    if rule[0] == "pair":
        row.extend([(rule[2], 1), (rule[1], 1)])
    else:
        row.append((rule[1], rule[2]))
