"""Promises [12] to [14]: the one straight text of each word."""

import itertools
import unittest

from undoneall.errors import BadCount, BadPlace, BadStraight, BadWord, TooGreat
from undoneall.shrinking import (cut, first_unlike, joined, opposite, repeated, rounds, same_word, shrunk, written)
from undoneall.straight import balance, is_straight, letter_at, lengths
from tests.plain import opposite_word, plain_rounds, plain_shrunk, rounds_by_rules, rules_of, text_of, words_of
from tests.texts import (A, B, EMPTY, NO_TEXTS, NONE, UNDO_A, behind, doubled, fibonacci, great_texts, ruler,
                         texts_by_chance, thue, towers, turned)

EXAMPLE = (1, 1, 2, 1, 1, 2, 3)
EXAMPLE_TEXT = (("letter", 1), ("letter", 2), ("letter", 3), ("power", 0, 2), ("pair", 1, 2), ("pair", 1, 3),
                ("pair", 3, 5), ("pair", 6, 4))
EXAMPLE_ROUNDS = (("blocks", ((0, 2),)), ("pairs", (2,), ((2, 4), (2, 40))), ("blocks", ()),
                  ("pairs", (40, 41), ((40, 42),)), ("blocks", ()), ("pairs", (43,), ((43, 41),)))
# Of so many letters, far more than can be written out, with so many symbols in their shrunk texts.
FIT = behind(fibonacci(2002), (A,))
UNFIT = behind(fibonacci(2002), (B,))
NO_NUMBERS = (True, False, None, "1", (), (1,), [1], {}, b"1", object())


def by_formula(seed, size, letters):
    """A word that is the same wherever it is made."""
    word = []
    for _ in range(size):
        seed = (seed * 6364136223846793005 + 1442695040888963407) % 2 ** 64
        word.append(letters[(seed >> 33) % len(letters)])
    return tuple(word)


ALL_LETTERS = tuple(x for x in range(-20, 21) if x != 0)


class Example(unittest.TestCase):
    def test_of_the_document(self):
        for text in (text_of(EXAMPLE), (A, B, ("pair", 0, 0), ("pair", 2, 1), ("power", 3, 2), ("letter", 3),
                                        ("pair", 4, 5)), EXAMPLE_TEXT):
            self.assertEqual(shrunk(text), EXAMPLE_TEXT)
            self.assertEqual(rounds(text), EXAMPLE_ROUNDS)
        self.assertEqual(written(EXAMPLE), EXAMPLE_TEXT)


class OneText(unittest.TestCase):
    def judge(self, text, word):
        """The text's word has the shrunk text and the rounds that the document's words say."""
        turns = plain_rounds(word)
        expected = rules_of(word, turns)
        self.assertEqual(shrunk(text), expected)
        self.assertEqual(rounds(text), turns)
        self.assertEqual(written(word), expected)
        return expected

    def test_empty_words(self):
        for text in EMPTY:
            self.judge(text, ())
            self.assertEqual(shrunk(text), (NONE,))
            self.assertEqual(rounds(text), ())
        self.assertEqual(written(()), (NONE,))

    def test_one_letter(self):
        for x in ALL_LETTERS:
            self.assertEqual(self.judge((("letter", x),), (x,)), (("letter", x),))
            self.judge((NONE, ("letter", x), ("pair", 0, 1), ("pair", 2, 0)), (x,))
            self.assertEqual(rounds((("letter", x),)), ())

    def test_one_letter_again_and_again(self):
        for k in (2, 3, 4, 4000):
            self.assertEqual(written((-3,) * k), (("letter", -3), ("power", 0, k)))
            self.assertEqual(rounds((("letter", -3), ("power", 0, k))), (("blocks", ((5, k),)),))

    def test_all_short_words(self):
        for size in range(8):
            for word in itertools.product((1, -1, 2), repeat=size):
                self.judge(text_of(word), word)
        for size in range(6):
            for word in itertools.product((20, -20, 3, 1), repeat=size):
                self.judge(text_of(word), word)

    def test_texts_by_chance(self):
        shrunk_texts = {}
        for letters in ((1,), (1, 2), (1, -1), (1, -1, 2, -2, 3), ALL_LETTERS):
            for text in texts_by_chance(3, 250, letters):
                word = words_of(text)[-1]
                found = self.judge(text, word)
                self.assertEqual(words_of(found)[-1], word)
                self.assertEqual(shrunk(found), found)
                self.assertEqual(shrunk_texts.setdefault(found, word), word)

    def test_words_of_four_thousand_letters(self):
        for letters in ((1, 2), (1, -1, 2), ALL_LETTERS):
            word = by_formula(1, 4000, letters)
            self.judge(text_of(word[:3000]), word[:3000])
            self.assertEqual(written(word), plain_shrunk(word))

    def test_sides_are_exchanged(self):
        turns = plain_rounds((2, 1, 3, 1, 2, 1))
        self.assertEqual(turns[1][1], (2, 4))
        self.assertEqual(rounds(text_of((2, 1, 3, 1, 2, 1))), turns)


class LongWords(unittest.TestCase):
    def judge(self, text):
        """The turns are those that come rule by rule, and the shrunk text has the text's word."""
        turns = rounds_by_rules(text)
        self.assertEqual(rounds(text), turns)
        found = shrunk(text)
        self.assertEqual(found, rules_of([x for x, _ in balance(text)], turns))
        self.assertEqual(lengths(found)[-1], lengths(text)[-1])
        self.assertEqual(balance(found), balance(text))
        for at in range(40):
            place = lengths(text)[-1] * at // 40
            self.assertEqual(letter_at(found, place), letter_at(text, place))

    def test_kinds_of_words(self):
        for text in (fibonacci(150), behind(fibonacci(90), fibonacci(80)), thue(60), ruler(70, (1, 2)),
                     ruler(45, (1, 2, 3, 4, 5)), ruler(60, (1,)), towers(12, 2), towers(9, 10 ** 40),
                     (A, B, ("pair", 0, 1), ("power", 2, 10 ** 40), ("pair", 3, 0), ("power", 4, 7 ** 90))):
            self.judge(text)

    def test_words_by_chance(self):
        for text in (*great_texts(1, 150, 25), *great_texts(2, 60, 45)):
            if lengths(text)[-1] > 5000:
                self.judge(text)

    def test_great_powers(self):
        for k in (2, 10 ** 40, 2 ** 2000):
            self.assertEqual(shrunk((A, ("power", 0, k))), (A, ("power", 0, k)))
            self.assertEqual(shrunk((A, B, ("pair", 0, 1), ("power", 2, k))), (A, B, ("pair", 0, 1), ("power", 2, k)))
            self.assertEqual(shrunk((A, *(("power", at, k) for at in range(5)))), (A, ("power", 0, k ** 5)))
            text = (A, B, ("pair", 1, 0), ("power", 2, k), ("pair", 3, 1), ("pair", 0, 4))
            self.assertEqual(shrunk(text), (A, B, ("pair", 0, 1), ("power", 2, k + 1)))

    def test_texts_of_four_thousand_rules(self):
        self.assertEqual(shrunk(doubled(4000)), (A, ("power", 0, 2 ** 3999)))
        alike = (A, B, ("pair", 0, 1), *(("pair", at, at) for at in range(2, 3999)))
        self.assertEqual(len(alike), 4000)
        self.assertEqual(shrunk(alike), (A, B, ("pair", 0, 1), ("power", 2, 2 ** 3997)))
        word = by_formula(2, 3990, (1, 2, 3, -1, -2))
        self.assertEqual(len(text_of(word)), 3994)
        self.assertEqual(shrunk(text_of(word)), plain_shrunk(word))
        self.assertEqual(shrunk((NONE, *(("pair", at, at) for at in range(3999)))), (NONE,))
        self.assertEqual(shrunk(ruler(1999, (1,))), (A, ("power", 0, 2 ** 2000 - 1)))
        with self.assertRaises(TooGreat):
            shrunk(fibonacci(4000))

    def test_one_word_by_unlike_texts(self):
        word = fibonacci(150)
        size = lengths(word)[-1]
        for low in (0, 1, size // 3, size - 1, size):
            self.assertEqual(joined(cut(word, 0, low), cut(word, low, size)), shrunk(word))
        self.assertEqual(joined(word, fibonacci(149)), shrunk(fibonacci(151)))
        self.assertEqual(joined(joined(fibonacci(149), fibonacci(148)), fibonacci(149)), shrunk(fibonacci(151)))
        self.assertEqual(joined(repeated(word, 3), repeated(word, 10 ** 40)), repeated(word, 10 ** 40 + 3))


class Bounds(unittest.TestCase):
    def test_four_thousand_rules_and_one_more(self):
        self.assertEqual(len(shrunk(FIT)), 4000)
        self.assertTrue(is_straight(shrunk(FIT)))
        self.assertEqual(len(joined(fibonacci(2002), (A,))), 4000)
        self.assertEqual(sum(len(turn[-1]) for turn in rounds(FIT)), 3998)
        for call in (lambda: shrunk(UNFIT), lambda: rounds(UNFIT), lambda: joined(fibonacci(2002), (B,)),
                     lambda: same_word(UNFIT, (A,)), lambda: same_word((A,), UNFIT), lambda: same_word(UNFIT, UNFIT),
                     lambda: first_unlike(UNFIT, (B,)), lambda: first_unlike((B,), UNFIT), lambda: repeated(UNFIT, 1),
                     lambda: opposite(turned(UNFIT)), lambda: cut(UNFIT, 0, lengths(UNFIT)[-1])):
            with self.assertRaises(TooGreat):
                call()
        self.assertIs(same_word(FIT, FIT), True)
        self.assertIsNone(first_unlike(FIT, shrunk(FIT)))
        self.assertEqual(shrunk(shrunk(FIT)), shrunk(FIT))

    def test_words_that_can_be_written_out(self):
        word = by_formula(2, 5152, ALL_LETTERS)
        for size, count in ((5150, 4000), (5152, 4001)):
            self.assertEqual(len(plain_shrunk(word[:size])), count)
        one, other = written(word[:3000]), written(word[3000:5150])
        self.assertEqual(joined(one, other), plain_shrunk(word[:5150]))
        with self.assertRaises(TooGreat):
            joined(one, written(word[3000:]))

    def test_what_comes_on_the_way_may_be_greater(self):
        self.assertEqual(cut(UNFIT, 0, 3), written((2, 1, 2)))
        self.assertEqual(cut(fibonacci(4000), 5, 5), (NONE,))
        self.assertEqual(repeated(UNFIT, 0), (NONE,))
        self.assertEqual(joined(doubled(4000), doubled(4000)), (A, ("power", 0, 2 ** 4000)))


class Words(unittest.TestCase):
    def test_how_long(self):
        self.assertEqual(written((1,) * 4000), (A, ("power", 0, 4000)))
        self.assertEqual(written(word=(1, 2)), (A, B, ("pair", 0, 1)))
        with self.assertRaises(BadWord):
            written((1,) * 4001)

    def test_what_is_no_word(self):
        for thing in (None, 0, 1, True, "", "a", [], [1], {}, {1}, b"", (0,), (21,), (-21,), (1, 0), (True,),
                      (1, False), ("a",), (None,), ((1,),), ([1],), (1, (2,)), (10 ** 40,), object(), range(2)):
            with self.assertRaises(BadWord):
                written(thing)
            with self.assertRaises(BadWord):
                written(word=thing)


class Likeness(unittest.TestCase):
    def judge(self, one, other, place):
        """The words are unlike from this place on, None if they are the same."""
        for left, right in ((one, other), (other, one)):
            self.assertIs(same_word(left, right), place is None)
            self.assertIs(same_word(other=right, one=left), place is None)
            self.assertEqual(first_unlike(left, right), place)
            self.assertEqual(first_unlike(other=right, one=left), place)

    def test_short_words(self):
        words = [word for size in range(5) for word in itertools.product((1, 2, -1), repeat=size)][::3]
        for one in words:
            for other in words[::5]:
                place = next((at for at, (x, y) in enumerate(zip(one, other)) if x != y), min(len(one), len(other)))
                self.judge(text_of(one), text_of(other), None if one == other else place)

    def test_texts_by_chance(self):
        for one, two in zip(texts_by_chance(8, 150, (1, 2)), texts_by_chance(9, 150, (1, 2))):
            word = words_of(one)[-1]
            for other in (words_of(two)[-1], word[:len(word) // 2] + words_of(two)[-1], word + (1,), word[:-1]):
                place = next((at for at, (x, y) in enumerate(zip(word, other)) if x != y), min(len(word), len(other)))
                self.judge(one, text_of(other), None if word == other else place)

    def test_empty_words(self):
        for one in EMPTY:
            for other in EMPTY:
                self.judge(one, other, None)
            self.judge(one, (A,), 0)
            self.judge(one, doubled(4000), 0)

    def test_long_words(self):
        size = lengths(fibonacci(300))[-1]
        whole = fibonacci(300)
        self.judge(whole, fibonacci(299), lengths(fibonacci(299))[-1])
        self.judge(whole, behind(whole, (A,)), size)
        self.judge(whole, shrunk(whole), None)
        for place in (0, 1, 2 ** 60 + 7, size // 2, size - 2, size - 1):
            x = 3 - letter_at(whole, place)
            changed = joined(joined(cut(whole, 0, place), (("letter", x),)), cut(whole, place + 1, size))
            self.judge(whole, changed, place)
            self.judge(whole, cut(whole, 0, place), place)
        self.judge((A, ("power", 0, 10 ** 40)), (A, ("power", 0, 10 ** 50)), 10 ** 40)
        self.judge((A, B, ("pair", 0, 1), ("power", 2, 10 ** 40)),
                   (A, B, ("pair", 0, 1), ("power", 2, 10 ** 30), ("pair", 3, 1)), 2 * 10 ** 30)
        self.judge((A, B, ("pair", 0, 1), ("power", 2, 10 ** 9), ("pair", 1, 3)),
                   (A, B, ("pair", 1, 0), ("power", 2, 10 ** 8), ("pair", 3, 1)), 2 * 10 ** 8 + 1)

    def test_others_than_texts(self):
        for thing in NO_TEXTS:
            for one, other in ((thing, (A,)), ((A,), thing), (thing, thing), (UNFIT, thing), (thing, UNFIT)):
                for function in (same_word, first_unlike, joined):
                    with self.assertRaises(BadStraight):
                        function(one, other)


class Parts(unittest.TestCase):
    def test_joined(self):
        for one, other in zip(texts_by_chance(12, 200), texts_by_chance(13, 200)):
            word = words_of(one)[-1] + words_of(other)[-1]
            self.assertEqual(joined(one, other), plain_shrunk(word))
            self.assertEqual(joined(other=other, one=one), plain_shrunk(word))
        for empty in EMPTY:
            self.assertEqual(joined(empty, EMPTY[0]), (NONE,))
            self.assertEqual(joined(empty, text_of(EXAMPLE)), EXAMPLE_TEXT)
            self.assertEqual(joined(text_of(EXAMPLE), empty), EXAMPLE_TEXT)

    def test_repeated(self):
        for text in texts_by_chance(14, 100):
            for k in (0, 1, 2, 3, 7):
                self.assertEqual(repeated(text, k), plain_shrunk(words_of(text)[-1] * k))
                self.assertEqual(repeated(k=k, text=text), repeated(text, k))
        self.assertEqual(repeated((A, B, ("pair", 0, 1)), 10 ** 40), (A, B, ("pair", 0, 1), ("power", 2, 10 ** 40)))
        self.assertEqual(repeated(fibonacci(150), 1), shrunk(fibonacci(150)))
        self.assertEqual(repeated(fibonacci(150), 2), shrunk(behind(fibonacci(150), fibonacci(150))))
        for empty in EMPTY:
            for k in (0, 1, 2, 10 ** 40):
                self.assertEqual(repeated(empty, k), (NONE,))

    def test_what_is_no_count(self):
        for k in (-1, -10 ** 40, *NO_NUMBERS):
            for text in ((A,), (NONE,), UNFIT):
                with self.assertRaises(BadCount):
                    repeated(text, k)
            for thing in NO_TEXTS:
                with self.assertRaises(BadStraight):
                    repeated(thing, k)

    def test_opposite(self):
        for text in texts_by_chance(15, 150):
            self.assertEqual(opposite(text), plain_shrunk(opposite_word(words_of(text)[-1])))
            self.assertEqual(opposite(text=text), opposite(text))
        for text in EMPTY:
            self.assertEqual(opposite(text), (NONE,))
        self.assertEqual(opposite(doubled(4000)), (UNDO_A, ("power", 0, 2 ** 3999)))
        whole = fibonacci(200)
        size = lengths(whole)[-1]
        for place in (0, 1, 12345, size // 3, size - 1):
            self.assertEqual(letter_at(opposite(whole), place), -letter_at(whole, size - 1 - place))
        self.assertEqual(opposite(whole), shrunk(turned(whole)))

    def test_cut(self):
        for text in texts_by_chance(16, 120, most=60):
            word = words_of(text)[-1]
            for low in range(0, len(word) + 1, 1 + len(word) // 7):
                for high in range(low, len(word) + 1, 1 + len(word) // 5):
                    self.assertEqual(cut(text, low, high), plain_shrunk(word[low:high]))
                    self.assertEqual(cut(high=high, low=low, text=text), cut(text, low, high))
            self.assertEqual(cut(text, 0, len(word)), shrunk(text))
            self.assertEqual(cut(text, len(word), len(word)), (NONE,))

    def test_cut_of_powers(self):
        text = (A, B, ("letter", 3), ("pair", 0, 1), ("pair", 3, 2), ("power", 4, 10 ** 40))
        word = (1, 2, 3) * 8
        for low in range(8):
            for high in range(low, 20):
                self.assertEqual(cut(text, 3 * 10 ** 30 + low, 3 * 10 ** 30 + high), plain_shrunk(word[low:high]))
        found = cut(text, 1, 3 * 10 ** 40 - 1)
        self.assertEqual(lengths(found)[-1], 3 * 10 ** 40 - 2)
        self.assertEqual(joined(joined((A,), found), (("letter", 3),)), shrunk(text))

    def test_what_is_no_place(self):
        for text, size in ((text_of(EXAMPLE), 7), ((NONE,), 0), ((A,), 1), (UNFIT, lengths(UNFIT)[-1])):
            pairs = [(-1, 0), (0, size + 1), (size + 1, size + 1), (size, size - 1), (-1, size + 1), (-1, -1),
                     (10 ** 60, 10 ** 600)]
            pairs += [(thing, 0) for thing in NO_NUMBERS] + [(0, thing) for thing in NO_NUMBERS] + [(True, True)]
            for low, high in pairs:
                with self.assertRaises(BadPlace):
                    cut(text, low, high)
        for thing in NO_TEXTS:
            for low, high in ((0, 0), (-1, 0), (None, None)):
                with self.assertRaises(BadStraight):
                    cut(thing, low, high)


class Others(unittest.TestCase):
    def test_what_is_no_text(self):
        for thing in NO_TEXTS:
            for function in (shrunk, rounds, opposite):
                with self.assertRaises(BadStraight):
                    function(thing)
                with self.assertRaises(BadStraight):
                    function(text=thing)

    def test_kinds_of_results(self):
        self.assertIs(type(rounds(text_of(EXAMPLE))), tuple)
        for turn in rounds(text=text_of(EXAMPLE)):
            self.assertTrue(all(type(part) in (str, tuple) for part in turn))
        for text in (shrunk(text=FIT), written(EXAMPLE), cut(FIT, 3, 2 ** 70), repeated(EXAMPLE_TEXT, 3)):
            self.assertTrue(is_straight(text))

    def test_equal_calls_give_equal_results(self):
        for text in great_texts(4, 5):
            self.assertEqual(shrunk(text), shrunk(text))
            self.assertEqual(rounds(text), rounds(text))


if __name__ == "__main__":
    unittest.main()
