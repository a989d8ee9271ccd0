"""The one straight text that each word has, and what is told of words by it."""

from undoneall.errors import BadCount, BadPlace, BadWord
from undoneall.kinds import is_integer, is_row, is_within
from undoneall.likeness import common_length
from undoneall.rules import cut_rules, joined_rules, opposite_rules, repeated_rules, word_rules
from undoneall.straight import MOST_RULES, is_letter, rule_sizes, want_straight
from undoneall.turns import all_turns, symbol_rules

LONGEST_WORD = 4000


def shrunk_rules(rules):
    """The shrunk text of the word of a row of rules, however many; TooGreat if it has too many."""
    letters, turns = all_turns(rules, MOST_RULES)
    return symbol_rules(letters, turns)


def shrunk(text):
    """The shrunk text of a straight text's word."""
    want_straight(text)
    return shrunk_rules(text)


def written(word):
    """The shrunk text of a word."""
    if not is_row(word, 0, LONGEST_WORD) or not all(is_letter(x) for x in word):
        raise BadWord("this is no word")
    return shrunk_rules(word_rules(word))


def rounds(text):
    """The turns that make the shrunk text of a straight text's word."""
    want_straight(text)
    _, turns = all_turns(text, MOST_RULES)
    return tuple(turns)


def same_word(one, other):
    """Whether two straight texts have the same word."""
    want_straight(one)
    want_straight(other)
    return shrunk_rules(one) == shrunk_rules(other)


def first_unlike(one, other):
    """The first place at which the words of two straight texts differ, None if they are the same."""
    want_straight(one)
    want_straight(other)
    left = shrunk_rules(one)
    right = shrunk_rules(other)
    return None if left == right else common_length(left, right)


def joined(one, other):
    """The shrunk text of the words of two straight texts, one behind the other."""
    want_straight(one)
    want_straight(other)
    return shrunk_rules(joined_rules(one, other))


def repeated(text, k):
    """The shrunk text of a straight text's word k times."""
    want_straight(text)
    if not is_integer(k) or k < 0:
        raise BadCount("this is no integer from 0 on")
    return shrunk_rules(repeated_rules(text, k))


def opposite(text):
    """The shrunk text of the opposite of a straight text's word."""
    want_straight(text)
    return shrunk_rules(opposite_rules(text))


def cut(text, low, high):
    """The shrunk text of the letters of a straight text's word from the place low on that are ahead of high."""
    want_straight(text)
    if not is_within(high, 0, rule_sizes(text)[-1]) or not is_within(low, 0, high):
        raise BadPlace("these are no places of the word in order")
    return shrunk_rules(cut_rules(text, low, high))
