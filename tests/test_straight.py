"""Promise [11]: straight texts."""

import random
import unittest

from undoneall.errors import BadPlace, BadStraight
from undoneall.straight import balance, is_straight, letter_at, lengths, spelled
from tests.samples import NESTED, STRANGE, as_lists, replaced

NONE = ("none",)
ONE = ("letter", 1)
UNDO = ("letter", -1)
RICH = (NONE, ONE, ("letter", -20), ("pair", 1, 2), ("power", 3, 3), ("pair", 0, 4), ("pair", 5, 1))


def doubled(many):
    """Rules one in another, the last one's word having 2 ** (many - 1) letters."""
    return (ONE, *(("pair", at, at) for at in range(many - 1)))


def longer(size):
    """A text of a word of so many letters, 1 and -2 by turns."""
    rules = [ONE, ("letter", -2), ("pair", 0, 1)]
    if size > 3:
        rules.append(("power", 2, size // 2))
    if size > 2 and size % 2:
        rules.append(("pair", len(rules) - 1, 0))
    return tuple(rules)


def plainly_spelled(text):
    """The words of all rules, written out."""
    words = []
    for rule in text:
        if rule[0] == "none":
            words.append(())
        elif rule[0] == "letter":
            words.append((rule[1],))
        elif rule[0] == "pair":
            words.append(words[rule[1]] + words[rule[2]])
        else:
            words.append(words[rule[1]] * rule[2])
    return words


def made_texts(count):
    """Texts by chance with words that can be written out."""
    chance = random.Random(5)
    found = []
    while len(found) < count:
        rules = [chance.choice((NONE, ONE, UNDO, ("letter", chance.randrange(1, 21))))]
        for at in range(1, chance.randrange(1, 14)):
            kind = chance.choice(("none", "letter", "pair", "pair", "pair", "power"))
            if kind == "none":
                rules.append(NONE)
            elif kind == "letter":
                rules.append(("letter", chance.choice((1, -1, 2, -2, 20, -20))))
            elif kind == "pair":
                rules.append(("pair", chance.randrange(at), chance.randrange(at)))
            else:
                rules.append(("power", chance.randrange(at), chance.randrange(2, 4)))
        found.append(tuple(rules))
    return found


class Judged(unittest.TestCase):
    def judge(self, thing, expected):
        """is_straight says so, and all functions go by it."""
        self.assertIs(is_straight(thing), expected)
        self.assertIs(is_straight(thing=thing), expected)
        if not expected:
            for function in (lengths, spelled, balance):
                with self.assertRaises(BadStraight):
                    function(thing)
                with self.assertRaises(BadStraight):
                    function(text=thing)
            for place in (0, -1, None, True, "a"):
                with self.assertRaises(BadStraight):
                    letter_at(thing, place)


class Forms(Judged):
    def test_how_many_rules(self):
        self.judge((), False)
        for many, expected in ((1, True), (2, True), (3999, True), (4000, True), (4001, False), (4500, False)):
            self.judge((ONE,) * many, expected)
            self.judge((NONE,) * many, expected)
            self.judge(doubled(many), expected)
            self.judge((ONE, *(("pair", at, 0) for at in range(many - 1))), expected)

    def test_each_kind(self):
        for rule in (NONE, ONE, UNDO):
            self.judge((rule,), True)
        self.judge((ONE, ("pair", 0, 0)), True)
        self.judge((ONE, ("power", 0, 2)), True)
        self.judge(RICH, True)
        for kind in ("", "None", "empty", "pairs", "do", "Letter", None, 0, True, (), NONE, ["none"], {}):
            for rest in ((), (1,), (0, 0), (0, 2), (-1,)):
                self.judge((ONE, (kind, *rest)), False)

    def test_letters(self):
        for letter in range(-25, 26):
            self.judge((("letter", letter),), letter != 0 and -20 <= letter <= 20)
            self.judge((ONE, ("letter", letter), NONE), letter != 0 and -20 <= letter <= 20)
        for letter in (True, False, None, "a", "1", (), (1,), [1], 10 ** 30, -10 ** 30, {}, b"a", object()):
            self.judge((("letter", letter),), False)

    def test_parts(self):
        for kind in ("pair", "power"):
            for part in (-1, -2, 2, 3, 4, 10 ** 30, True, False, None, "0", (), (0,), [0], {}, object()):
                self.judge((ONE, ONE, (kind, part, 3), ONE, ONE), False)
                self.judge((ONE, ONE, ("pair", 0, part), ONE, ONE), False)
                self.judge((ONE, ONE, ("pair", part, 0), ONE, ONE), False)
            self.judge(((kind, 0, 2),), False)
        for one in (0, 1):
            for other in (0, 1):
                self.judge((ONE, NONE, ("pair", one, other)), True)
            self.judge((ONE, NONE, ("power", one, 3)), True)

    def test_times(self):
        for times in (-10 ** 30, -2, -1, 0, 1, True, False, None, "2", (2,), [2], {}, object()):
            self.judge((ONE, ("power", 0, times)), False)
            self.judge((NONE, ("power", 0, times)), False)
        for times in (2, 3, 1000, 10 ** 40, 2 ** 2000):
            self.judge((ONE, ("power", 0, times)), True)
            self.judge((NONE, ("power", 0, times)), True)

    def test_parts_too_many_or_too_few(self):
        for rule in (NONE, ONE, ("pair", 0, 0), ("power", 0, 2)):
            self.judge((ONE, rule[:-1]), False)
            for more in (0, 1, 2, None, "none", ()):
                self.judge((ONE, (*rule, more)), False)
                self.judge((ONE, (*rule, more, more)), False)
        self.judge((("letter",),), False)
        self.judge((ONE, ("pair",)), False)
        self.judge((ONE, ("power",)), False)

    def test_lists(self):
        for thing in as_lists(RICH):
            self.judge(thing, False)

    def test_strange_objects_in_the_place_of_any_part(self):
        for part in (None, True, False, "", "a", "1", [], [0], {}, {"a": 1}, (), (0,), object(), b"", -30, 10 ** 4):
            for thing in replaced(RICH, part):
                is_times = part == 10 ** 4 and isinstance(thing, tuple) and ("power", 3, part) in thing
                self.judge(thing, is_times)

    def test_strange_objects(self):
        for thing in (*STRANGE, *NESTED, NONE, ONE, ("pair", 0, 0), "none", ("none", "none")):
            self.judge(thing, False)
            self.judge((thing,), thing in (NONE, ONE))
            self.judge((ONE, thing), thing in (NONE, ONE, ("pair", 0, 0)))


class Lengths(unittest.TestCase):
    def test_each_rule(self):
        self.assertEqual(lengths(RICH), (0, 1, 1, 2, 6, 6, 7))
        self.assertEqual(lengths(text=(NONE,)), (0,))
        self.assertEqual(lengths((ONE, UNDO, ("pair", 0, 1), ("power", 2, 5))), (1, 1, 2, 10))
        self.assertEqual(lengths((NONE, ("power", 0, 10 ** 50), ("pair", 0, 1), ONE)), (0, 0, 0, 1))
        self.assertIs(type(lengths(RICH)), tuple)

    def test_very_long_words(self):
        self.assertEqual(lengths((ONE, ("power", 0, 10 ** 40), ("pair", 1, 0), ("power", 2, 10 ** 40))),
                         (1, 10 ** 40, 10 ** 40 + 1, 10 ** 80 + 10 ** 40))
        self.assertEqual(lengths(doubled(4000)), tuple(2 ** at for at in range(4000)))

    def test_by_chance(self):
        for text in made_texts(300):
            self.assertEqual(lengths(text), tuple(len(word) for word in plainly_spelled(text)))


class Letters(unittest.TestCase):
    def bad(self, text, place):
        """This is no place of the text's word."""
        with self.assertRaises(BadPlace):
            letter_at(text, place)
        with self.assertRaises(BadPlace):
            letter_at(place=place, text=text)

    def test_every_place(self):
        for text in (RICH, (ONE,), (UNDO,), *made_texts(300)):
            word = plainly_spelled(text)[-1]
            for at in range(min(len(word), 300)):
                self.assertEqual(letter_at(text, at), word[at])
                self.assertEqual(letter_at(place=at, text=text), word[at])
            for at in (-1, -len(word) - 1, len(word), len(word) + 1, 10 ** 40):
                self.bad(text, at)

    def test_what_is_no_place(self):
        for text in (RICH, (ONE,), (ONE, ("power", 0, 10 ** 40))):
            for place in (True, False, None, "0", "a", (), (0,), [0], {}, b"0", object(), -1, -10 ** 40):
                self.bad(text, place)

    def test_empty_words(self):
        for text in ((NONE,), (ONE, NONE), (NONE, ("power", 0, 10 ** 40)), (NONE, ("power", 0, 2), ("pair", 1, 0))):
            for place in (0, 1, -1, True, None):
                self.bad(text, place)

    def test_very_long_words(self):
        text = (ONE, ("power", 0, 10 ** 40), ("letter", 7), ("pair", 1, 2), ("power", 3, 10 ** 40), ("pair", 4, 0))
        size = (10 ** 40 + 1) * 10 ** 40
        self.assertEqual(letter_at(text, 10 ** 40), 7)
        self.assertEqual(letter_at(text, 10 ** 40 - 1), 1)
        self.assertEqual(letter_at(text, size - 1), 7)
        self.assertEqual(letter_at(text, size), 1)
        self.assertEqual(letter_at(text, (10 ** 40 + 1) * 12345 + 10 ** 40), 7)
        self.assertEqual(letter_at(text, (10 ** 40 + 1) * 12345), 1)
        self.bad(text, size + 1)

    def test_rules_one_in_another(self):
        rules = [("letter", 5), ONE]
        for at in range(1, 3999):
            rules.append(("pair", at, at) if at < 3998 else ("pair", at, 0))
        text = tuple(rules)
        size = 2 ** 3997
        self.assertEqual(len(text), 4000)
        self.assertEqual(lengths(text)[-1], size + 1)
        self.assertEqual(letter_at(text, size), 5)
        self.assertEqual(letter_at(text, size - 1), 1)
        self.bad(text, size + 1)
        ahead = (NONE, ("letter", 3), *(("pair", 0, at) for at in range(1, 3999)))
        self.assertEqual(letter_at(ahead, 0), 3)

    def test_bad_straight_comes_first(self):
        for text in ((), [ONE], (("letter", 0),), None):
            for place in (-1, None, True, 0):
                with self.assertRaises(BadStraight):
                    letter_at(text, place)


class Spelled(unittest.TestCase):
    def test_words(self):
        self.assertEqual(spelled(RICH), (1, -20, 1, -20, 1, -20, 1))
        self.assertEqual(spelled(text=(UNDO,)), (-1,))
        for text in made_texts(300):
            word = plainly_spelled(text)[-1]
            self.assertEqual(spelled(text), word if len(word) <= 4000 else None)

    def test_empty_words(self):
        for text in ((NONE,), (ONE, NONE), (NONE, ("power", 0, 10 ** 40)), (NONE, ("pair", 0, 0), ("power", 1, 9)),
                     (NONE, *(("pair", at, at) for at in range(3999)))):
            self.assertEqual(spelled(text), ())

    def test_how_long(self):
        for size in (2, 3, 4, 5, 3999, 4000, 4001, 4002, 10000):
            word = ((1, -2) * size)[:size]
            self.assertEqual(spelled(longer(size)), word if size <= 4000 else None)
        self.assertEqual(spelled((ONE, ("power", 0, 4000))), (1,) * 4000)
        self.assertIsNone(spelled((ONE, ("power", 0, 4001))))
        self.assertIsNone(spelled((ONE, ("power", 0, 10 ** 40))))
        self.assertIsNone(spelled(doubled(4000)))

    def test_rules_that_are_not_drawn_from(self):
        self.assertEqual(spelled((ONE, ("power", 0, 10 ** 40), UNDO)), (-1,))
        self.assertEqual(spelled((ONE, ("power", 0, 10 ** 40), ("pair", 0, 0))), (1, 1))
        self.assertEqual(spelled((*doubled(3998), UNDO, ("pair", 0, 3998))), (1, -1))

    def test_rules_one_in_another(self):
        self.assertEqual(spelled((ONE, *(("pair", at, 0) for at in range(3999)))), (1,) * 4000)
        self.assertEqual(spelled((ONE, *(("pair", 0, at) for at in range(3999)))), (1,) * 4000)
        # Many empty parts between few letters.
        rules = [NONE, ("letter", 3), ("pair", 0, 1)]
        for at in range(2, 3988):
            rules.append(("pair", at, 0) if at % 2 else ("pair", 0, at))
        for at in range(3988, 3999):
            rules.append(("pair", at, at))
        text = tuple(rules)
        self.assertEqual(spelled(text), (3,) * lengths(text)[-1])
        self.assertEqual(len(spelled(text)), 2048)

    def test_empty_parts_that_double(self):
        rules = [NONE, *(("pair", at, at) for at in range(3000)), ONE, ("pair", 3000, 3001), ("pair", 3002, 3000)]
        self.assertEqual(spelled(tuple(rules)), (1,))


class Balance(unittest.TestCase):
    def test_words(self):
        self.assertEqual(balance(RICH), ((1, 4), (20, -3)))
        self.assertEqual(balance(text=(UNDO,)), ((1, -1),))
        self.assertEqual(balance((NONE,)), ())
        self.assertEqual(balance((ONE, UNDO, ("pair", 0, 1), ("power", 2, 5))), ())
        self.assertEqual(balance((("letter", 20), ("letter", 3), ("pair", 0, 1))), ((3, 1), (20, 1)))
        self.assertIs(type(balance(RICH)), tuple)
        for text in made_texts(300):
            word = plainly_spelled(text)[-1]
            sums = [(x, word.count(x) - word.count(-x)) for x in range(1, 21)]
            self.assertEqual(balance(text), tuple((x, n) for x, n in sums if n != 0))

    def test_very_long_words(self):
        text = (ONE, ("power", 0, 10 ** 40), ("letter", -7), ("pair", 1, 2), ("power", 3, 10 ** 40), ("pair", 4, 0))
        self.assertEqual(balance(text), ((1, 10 ** 80 + 1), (7, -10 ** 40)))
        self.assertEqual(balance(doubled(4000)), ((1, 2 ** 3999),))

    def test_rules_that_are_not_drawn_from(self):
        self.assertEqual(balance((("letter", 5), ("power", 0, 10 ** 40), UNDO)), ((1, -1),))
        self.assertEqual(balance((*doubled(3998), NONE)), ())
        self.assertEqual(balance((("letter", 5), NONE, ("power", 1, 10 ** 40), ONE, ("pair", 2, 3))), ((1, 1),))


class Kept(unittest.TestCase):
    def test_equal_calls_give_equal_results(self):
        for function in (is_straight, lengths, spelled, balance):
            self.assertEqual(function(RICH), function(RICH))
        self.assertEqual(RICH[:4], (NONE, ONE, ("letter", -20), ("pair", 1, 2)))
        self.assertEqual(RICH[4:], (("power", 3, 3), ("pair", 0, 4), ("pair", 5, 1)))
