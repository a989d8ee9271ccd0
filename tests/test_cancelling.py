"""Promises [15] and [16]: nets."""

import itertools
import unittest

from undoneall.cancelling import alike, cancelling, is_cancelling, is_reduced, net_power, net_product, reduced
from undoneall.errors import BadCount, BadStraight, TooGreat
from undoneall.shrinking import cut, joined, opposite, repeated, shrunk, written
from undoneall.straight import lengths
from tests.plain import net_word, opposite_word, plain_cancelling, plain_shrunk, text_of, words_of
from tests.samples import NESTED, STRANGE, as_lists, replaced
from tests.texts import (A, B, EMPTY, NO_TEXTS, NONE, UNDO_A, behind, doubled, fibonacci, texts_by_chance, turned)

C = ("letter", 3)
EXAMPLE = (A, UNDO_A, ("pair", 0, 1), ("power", 2, 5))
TURNED_POWER = (A, B, UNDO_A, ("pair", 0, 1), ("pair", 3, 2), ("power", 4, 3))
# What undoes all that is ahead of it, in words of far more letters than can be written out.
FAR = fibonacci(300)
NOTHING_LEFT = behind(FAR, turned(FAR))
ONE_LEFT = behind(behind(FAR, (C,)), turned(FAR))
GREAT = fibonacci(2010)


def words_by_chance(seed):
    """Texts by chance of letters and their opposites, with their words."""
    for letters in ((1, -1), (1, -1, 2, -2), (1, 2, 3, -3)):
        for text in texts_by_chance(seed, 120, letters, 80):
            yield text, words_of(text)[-1]


class Reduced(unittest.TestCase):
    def judge(self, text, word):
        """The word's net is told, and whether the word is its own net."""
        net = net_word(word)
        self.assertEqual(reduced(text), plain_shrunk(net))
        self.assertEqual(reduced(text=text), plain_shrunk(net))
        self.assertIs(is_reduced(text), net == word)
        self.assertIs(is_reduced(text=text), net == word)

    def test_empty_words(self):
        for text in EMPTY:
            self.judge(text, ())

    def test_example(self):
        self.judge(EXAMPLE, (1, -1) * 5)
        self.judge(TURNED_POWER, (1, 2, -1) * 3)
        self.assertEqual(reduced(TURNED_POWER), plain_shrunk((1, 2, 2, 2, -1)))

    def test_all_short_words(self):
        for size in range(7):
            for word in itertools.product((1, -1, 2, -2), repeat=size):
                if size < 6 or word[0] == 1:
                    self.judge(text_of(word), word)

    def test_texts_by_chance(self):
        for text, word in words_by_chance(21):
            self.judge(text, word)

    def test_rules_that_are_not_drawn_from(self):
        self.judge((A, UNDO_A, ("pair", 0, 1), B), (2,))
        self.judge((A, UNDO_A, ("pair", 0, 1), ("pair", 2, 0)), (1, -1, 1))

    def test_long_words(self):
        self.assertEqual(reduced(NOTHING_LEFT), (NONE,))
        self.assertIs(is_reduced(NOTHING_LEFT), False)
        self.assertIs(is_reduced(FAR), True)
        self.assertEqual(reduced(FAR), shrunk(FAR))
        self.assertIs(is_reduced(ONE_LEFT), True)
        self.assertEqual(reduced(ONE_LEFT), shrunk(ONE_LEFT))
        size = lengths(FAR)[-1]
        for place in (0, 1, 2 ** 90 + 1, size // 2, size):
            self.assertEqual(reduced(behind(FAR, opposite(cut(FAR, place, size)))), cut(FAR, 0, place))
            self.assertEqual(reduced(behind(opposite(cut(FAR, 0, place)), FAR)), cut(FAR, place, size))
        self.assertEqual(reduced(doubled(4000)), (A, ("power", 0, 2 ** 3999)))
        self.assertEqual(reduced((A, UNDO_A, ("power", 0, 10 ** 40), ("power", 1, 10 ** 39), ("pair", 2, 3))),
                         (A, ("power", 0, 9 * 10 ** 39)))

    def test_words_of_four_thousand_letters(self):
        word = tuple((x * x + x // 7) % 5 - 2 or 2 for x in range(3990))
        self.judge(text_of(word), word)
        half = tuple((x * x + x // 7) % 3 + 1 for x in range(1990))
        self.judge(text_of(half + (4,) + opposite_word(half)), half + (4,) + opposite_word(half))
        self.judge(text_of(half + opposite_word(half)), half + opposite_word(half))

    def test_bounds(self):
        self.assertEqual(len(reduced(behind(fibonacci(2002), (A,)))), 4000)
        with self.assertRaises(TooGreat):
            reduced(behind(fibonacci(2002), (B,)))
        # What comes on the way is too great, what is left is not.
        self.assertEqual(reduced(behind(fibonacci(1999), turned(fibonacci(1999)))), (NONE,))
        self.assertEqual(net_product(GREAT, turned(GREAT)), (NONE,))
        self.assertIs(is_reduced(GREAT), True)


class Alike(unittest.TestCase):
    def judge(self, one, other, expected):
        """Whether the nets are the same."""
        for left, right in ((one, other), (other, one)):
            self.assertIs(alike(left, right), expected)
            self.assertIs(alike(other=right, one=left), expected)

    def test_words(self):
        self.judge(EXAMPLE, (NONE,), True)
        self.judge((A,), (UNDO_A,), False)
        self.judge((A,), text_of((2, -2, 1, 3, -3)), True)
        found = list(words_by_chance(22))
        for (one, word), (other, second) in zip(found, found[7:]):
            self.judge(one, other, net_word(word) == net_word(second))
            self.judge(one, text_of(second + opposite_word(second) + word), True)
            self.judge(one, text_of((3,) + word), False)

    def test_long_words(self):
        self.judge(NOTHING_LEFT, (NONE,), True)
        self.judge(FAR, shrunk(FAR), True)
        self.judge(behind(FAR, (C,)), behind(ONE_LEFT, FAR), True)
        self.judge(behind(FAR, (C,)), behind((C,), FAR), False)
        self.judge(FAR, fibonacci(299), False)
        self.judge(behind(GREAT, (A,)), behind(GREAT, (B,)), False)
        self.judge(GREAT, GREAT, True)
        self.judge(GREAT, behind(GREAT, (NONE,)), True)
        self.judge(doubled(4000), doubled(3999), False)


class Products(unittest.TestCase):
    def test_words(self):
        found = list(words_by_chance(23))
        for (one, word), (other, second) in zip(found, found[5:]):
            self.assertEqual(net_product(one, other), plain_shrunk(net_word(word + second)))
            self.assertEqual(net_product(other=other, one=one), net_product(one, other))
            self.assertEqual(net_product(one, text_of(opposite_word(word[1:]))), plain_shrunk(net_word(word[:1])))

    def test_long_words(self):
        self.assertEqual(net_product(FAR, turned(FAR)), (NONE,))
        self.assertEqual(net_product(turned(FAR), behind(FAR, (C,))), (C,))
        self.assertEqual(net_product(behind(FAR, (C,)), turned(FAR)), shrunk(ONE_LEFT))
        self.assertEqual(net_product(GREAT, turned(GREAT)), (NONE,))
        self.assertEqual(net_product(turned(GREAT), GREAT), (NONE,))

    def test_bounds(self):
        self.assertEqual(len(net_product(fibonacci(2002), (A,))), 4000)
        with self.assertRaises(TooGreat):
            net_product(fibonacci(2002), (B,))


class Powers(unittest.TestCase):
    def test_words(self):
        for text, word in words_by_chance(24):
            for k in (-4, -3, -2, -1, 0, 1, 2, 3, 5):
                whole = word * k if k >= 0 else opposite_word(word) * -k
                self.assertEqual(net_power(text, k), plain_shrunk(net_word(whole)))
        self.assertEqual(net_power(k=3, text=text_of((1, 2, -1))), plain_shrunk((1, 2, 2, 2, -1)))

    def test_great_numbers(self):
        k = 10 ** 40
        self.assertEqual(net_power((A,), k), (A, ("power", 0, k)))
        self.assertEqual(net_power((A,), -k), (UNDO_A, ("power", 0, k)))
        self.assertEqual(net_power((UNDO_A,), -1), (A,))
        expected = shrunk((A, B, UNDO_A, ("power", 1, k), ("pair", 0, 3), ("pair", 4, 2)))
        self.assertEqual(net_power(text_of((1, 2, -1)), k), expected)
        self.assertEqual(net_power(text_of((1, 2, -1)), -k), opposite(net_power(text_of((1, 2, -1)), k)))
        self.assertEqual(net_power(EXAMPLE, k), (NONE,))
        self.assertEqual(net_power(NOTHING_LEFT, -k), (NONE,))
        self.assertEqual(net_power(ONE_LEFT, k), shrunk(behind(behind(FAR, (C, ("power", 0, k))), turned(FAR))))
        self.assertEqual(net_power(FAR, k), repeated(FAR, k))
        self.assertEqual(net_power(GREAT, 0), (NONE,))

    def test_what_is_no_integer(self):
        for k in (True, False, None, "1", "", (), (1,), [], {}, b"1", object()):
            for text in ((A,), (NONE,), GREAT):
                with self.assertRaises(BadCount):
                    net_power(text, k)
            for thing in NO_TEXTS:
                with self.assertRaises(BadStraight):
                    net_power(thing, k)

    def test_bounds(self):
        with self.assertRaises(TooGreat):
            net_power(behind(fibonacci(2002), (B,)), 1)
        self.assertEqual(len(net_power(behind(fibonacci(2002), (A,)), 1)), 4000)


class Cancelling(unittest.TestCase):
    def judge(self, text, expected):
        """This is told, and nothing else is what is told."""
        self.assertEqual(cancelling(text), expected)
        self.assertIs(is_cancelling(text, expected), True)
        self.assertIs(is_cancelling(thing=expected, text=text), True)

    def test_example(self):
        self.judge(EXAMPLE, (((A,), 0), ((UNDO_A,), 0), ((NONE,), 1), ((NONE,), 0)))
        self.judge(TURNED_POWER,
                   (((A,), 0), ((B,), 0), ((UNDO_A,), 0), (written((1, 2)), 0), (written((1, 2, -1)), 0),
                    (written((1, 2, 2, 2, -1)), 1)))
        self.assertEqual(cancelling(text=EXAMPLE), cancelling(EXAMPLE))

    def test_texts_by_chance(self):
        for text, _ in words_by_chance(25):
            self.judge(text, plain_cancelling(text))
        for text in EMPTY:
            self.judge(text, tuple(((A,) if rule == A else (NONE,), 0) for rule in text))

    def test_powers(self):
        for word in itertools.product((1, -1, 2), repeat=4):
            for k in (2, 3):
                text = (*text_of(word), ("power", len(text_of(word)) - 1, k))
                self.judge(text, plain_cancelling(text))

    def test_long_words(self):
        far = fibonacci(120)
        text = (*behind(far, turned(far)), C, ("pair", 119, 241), ("pair", 242, 239), ("power", 243, 10 ** 40))
        self.assertEqual(text[240], ("pair", 119, 239))
        found = cancelling(text)
        self.assertEqual(found[119], (shrunk(far), 0))
        self.assertEqual(found[240], ((NONE,), lengths(far)[-1]))
        self.assertEqual(found[243], (shrunk(text[:244]), 0))
        self.assertEqual(found[244], (net_power(text[:244], 10 ** 40), lengths(far)[-1]))
        self.assertIs(is_cancelling(text, found), True)
        self.assertIs(is_cancelling(text, found[:-1] + ((found[-1][0], lengths(far)[-1] - 1),)), False)
        self.assertIs(is_cancelling(text, found[:-1] + ((shrunk(text[:244]), lengths(far)[-1]),)), False)

    def test_four_thousand_rules(self):
        self.judge(doubled(4000), tuple(((A, ("power", 0, 2 ** at)) if at else (A,), 0) for at in range(4000)))
        there_and_back = (A, UNDO_A, *(("pair", at, 0) for at in (0, *range(2, 2000))),
                          *(("pair", at, 1) for at in range(2000, 3999)))
        found = cancelling(there_and_back)
        self.assertEqual(len(found), 4000)
        self.assertEqual(found[2000], ((A, ("power", 0, 2000)), 0))
        self.assertEqual(found[2001], ((A, ("power", 0, 1999)), 1))
        self.assertEqual(found[3999], ((A,), 1))
        self.assertIs(is_cancelling(there_and_back, found), True)

    def test_bounds(self):
        for text in (GREAT, (*GREAT, A)):
            with self.assertRaises(TooGreat):
                cancelling(text)
            self.assertIs(is_cancelling(text, ((A,), 0)), False)
            self.assertIs(is_cancelling(text, (((A,), 0),) * len(text)), False)

    def test_other_objects(self):
        for text in (EXAMPLE, TURNED_POWER, (NONE,), (A,)):
            right = cancelling(text)
            for thing in (*STRANGE, *NESTED, right[:-1], right + right[-1:], right[::-1] if len(right) > 1 else ()):
                self.assertIs(is_cancelling(text, thing), False)
            for thing in as_lists(right):
                self.assertIs(is_cancelling(text, thing), False)
            for at, entry in enumerate(right):
                for other in (entry[:1], (*entry, 0), (*entry, None), entry[::-1], ()):
                    self.assertIs(is_cancelling(text, (*right[:at], other, *right[at + 1:])), False)
            for part in (*STRANGE, 3, -5, (NONE,), (A,), ((A,), 0), ("pair", 0, 1)):
                for thing in replaced(right, part):
                    same = thing == right and repr(thing) == repr(right)
                    self.assertIs(is_cancelling(text, thing), same)

    def test_nets_by_other_texts_are_not_told(self):
        self.assertIs(is_cancelling((A, ("pair", 0, 0)), (((A,), 0), ((A, ("power", 0, 2)), 0))), True)
        self.assertIs(is_cancelling((A, ("pair", 0, 0)), (((A,), 0), ((A, ("pair", 0, 0)), 0))), False)
        self.assertIs(is_cancelling((A, ("pair", 0, 0)), (((A,), 0), ((A, ("power", 0, 2)), 1))), False)
        self.assertIs(is_cancelling((A, ("pair", 0, 0)), (((A,), False), ((A, ("power", 0, 2)), 0))), False)

    def test_joined_by_what_is_told(self):
        for text, _ in list(words_by_chance(26))[:60]:
            told = cancelling(text)
            for at, rule in enumerate(text):
                if rule[0] == "pair":
                    one, other = told[rule[1]][0], told[rule[2]][0]
                    size, c = lengths(one)[-1], told[at][1]
                    self.assertEqual(joined(cut(one, 0, size - c), cut(other, c, lengths(other)[-1])), told[at][0])


class Others(unittest.TestCase):
    def test_what_is_no_text(self):
        for thing in NO_TEXTS:
            for function in (reduced, is_reduced, cancelling):
                with self.assertRaises(BadStraight):
                    function(thing)
            for one, other in ((thing, (A,)), ((A,), thing), (thing, thing), (GREAT, thing), (thing, GREAT)):
                for function in (alike, net_product):
                    with self.assertRaises(BadStraight):
                        function(one, other)
            for told in ((), None, cancelling((A,))):
                with self.assertRaises(BadStraight):
                    is_cancelling(thing, told)


if __name__ == "__main__":
    unittest.main()
