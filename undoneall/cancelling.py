"""The nets of words: what is left when letters that stand beside their opposites are taken out."""

from undoneall.errors import BadCount, TooGreat
from undoneall.kinds import is_integer, is_row
from undoneall.nets import Nets
from undoneall.rules import joined_rules, opposite_rules, repeated_rules, trimmed
from undoneall.shrinking import shrunk_rules
from undoneall.straight import is_straight, want_straight


def reduced(text):
    """The shrunk text of the net of a straight text's word."""
    want_straight(text)
    return _shrunk_net(text)


def net_product(one, other):
    """The shrunk text of the net of the words of two straight texts, one behind the other."""
    want_straight(one)
    want_straight(other)
    return _shrunk_net(joined_rules(one, other))


def net_power(text, k):
    """The shrunk text of the net of a straight text's word k times, of its opposite -k times if k is below 0."""
    want_straight(text)
    if not is_integer(k):
        raise BadCount("this is no integer")
    return _shrunk_net(repeated_rules(opposite_rules(text) if k < 0 else text, abs(k)))


def _shrunk_net(rules):
    """The shrunk text of the net of the word of some rules."""
    nets = Nets()
    net, _ = nets.of_rules(rules)[-1]
    return shrunk_rules(nets.text_of(net))


def is_reduced(text):
    """Whether no letter stands beside its opposite in a straight text's word."""
    want_straight(text)
    ends = []
    for rule in trimmed(text):
        if rule[0] == "letter":
            ends.append((rule[1], rule[1]))
            continue
        left = ends[rule[1]]
        right = ends[rule[2]] if rule[0] == "pair" else left
        if left[1] == -right[0]:
            return False
        ends.append((left[0], right[1]))
    return True


def alike(one, other):
    """Whether the words of two straight texts have the same net."""
    want_straight(one)
    want_straight(other)
    nets = Nets()
    left, _ = nets.of_rules(one)[-1]
    right, _ = nets.of_rules(other)[-1]
    return nets.are_equal(left, right)


def cancelling(text):
    """For each rule of a straight text the shrunk text of its word's net, and how many letters fall away in it."""
    want_straight(text)
    nets = Nets()
    found = nets.of_rules(text)
    shrunk_nets = {}
    # The last nets are the longest as a rule: so what is too great is found early.
    for net, _ in reversed(found):
        if net not in shrunk_nets:
            shrunk_nets[net] = shrunk_rules(nets.text_of(net))
    return tuple([(shrunk_nets[net], cut) for net, cut in found])


def is_cancelling(text, thing):
    """Whether thing is what cancelling tells of a straight text; nothing is where that would be too great."""
    want_straight(text)
    if not is_row(thing, len(text), len(text)) or not all(_is_told(entry) for entry in thing):
        return False
    nets = Nets()
    found = nets.of_rules(text)
    if [cut for _, cut in found] != [cut for _, cut in thing]:
        return False
    shrunk_nets = {}
    for at in reversed(range(len(found))):
        net, _ = found[at]
        if net not in shrunk_nets:
            shrunk_nets[net] = _shrunk_or_none(nets.text_of(net))
        if shrunk_nets[net] != thing[at][0]:
            return False
    return True


def _is_told(thing):
    """Whether thing is a pair of a straight text and an integer."""
    return is_row(thing, 2, 2) and is_straight(thing[0]) and is_integer(thing[1])


def _shrunk_or_none(rules):
    """The shrunk text of the word of some rules, None if it has too many rules."""
    try:
        return shrunk_rules(rules)
    except TooGreat:
        return None
