"""Promise [6]: where a text of a program goes wrong."""

import random
import unittest

from undoneall.errors import BadText
from undoneall.programs import read_program, write_program
from tests.samples import KEPT_WORDS, STRANGE
from tests.test_write_program import RICH_TEXT, made_programs

# What can stand at each spot of a text, told as rules of its own: a spot's words, and the spots that come of each.
GRAMMAR = {
    "text": {"letters": ("name", "names", "procedure", "procedures")},
    "names": {"name": ("names",), ";": ()},
    "procedures": {"proc": ("name", "body", "procedures"), "": ()},
    "procedure": {"proc": ("name", "body")},
    "name": {"name": ()},
    "semicolon": {";": ()},
    "body": {"{": ("statements",)},
    "statements": {
        "}": (),
        "do": ("name", "semicolon", "statements"),
        "undo": ("name", "semicolon", "statements"),
        "call": ("name", "semicolon", "statements"),
        "return": ("semicolon", "statements"),
        "loop": ("body", "statements"),
        "choose": ("body", "or", "more", "statements"),
        "ensure": ("body", "finally", "statements"),
    },
    "or": {"or": ("body",)},
    "finally": {"finally": ("body",)},
}
SMALL = "abcdefghijklmnopqrstuvwxyz"


def kind_of(word):
    """The word itself if it is a word of the language, "name" for a name, "wrong" for others."""
    if word in KEPT_WORDS or word in ("{", "}", ";", ""):
        return word
    good = len(word) <= 10 and word[0] in SMALL and all(sign in SMALL + "0123456789" for sign in word)
    return "name" if good else "wrong"


def first_wrong(words):
    """The index of the first word that cannot stand, the number of words if none is and some are missing, or None."""
    spots = ["text"]
    depth = 0
    for at, word in enumerate([*words, ""]):
        kind = kind_of(word)
        while spots and spots[-1] == "more":
            spots.pop()
            if kind == "or":
                spots.extend(["more", "or"])
        choices = GRAMMAR[spots.pop()] if spots else {"": ()}
        depth += (kind == "{") - (kind == "}")
        if kind not in choices or depth == 40:
            return at
        spots.extend(reversed(choices[kind]))
    return None


class Places(unittest.TestCase):
    def wrong(self, text, place):
        """The text goes wrong at the place."""
        with self.assertRaises(BadText) as caught:
            read_program(text)
        self.assertEqual(caught.exception.place, place, text)
        with self.assertRaises(BadText):
            read_program(text=text)

    def wrong_at(self, text):
        """The text goes wrong at the sign behind the stroke, which is no part of it."""
        self.wrong(text.replace("|", ""), text.index("|"))


class NoStr(Places):
    def test_what_is_no_str(self):
        for thing in STRANGE:
            if not isinstance(thing, str):
                self.wrong(thing, 0)
        self.wrong(RICH_TEXT.encode(), 0)
        self.wrong([RICH_TEXT], 0)
        self.wrong((RICH_TEXT,), 0)
        self.wrong(read_program(RICH_TEXT), 0)


class WrongWords(Places):
    def test_signs_that_begin_no_word(self):
        for sign in ("A", "_", "-", ".", ",", "(", "[", "#", '"', "~", "!", "\\", "/", "=", ":", "*", "+", "@", "Z"):
            self.wrong_at(f"|{sign}")
            self.wrong_at(f" \n|{sign} letters a ; proc main {{ }}")
            self.wrong_at(f"letters a |{sign} ; proc main {{ }}")
            self.wrong_at(f"letters a|{sign}b ; proc main {{ }}")
            self.wrong_at(f"letters a ; proc main|{sign} {{ }}")
            self.wrong_at(f"letters a ; proc main {{ do a ;|{sign} }}")
            self.wrong_at(f"letters a ; proc main {{ }}|{sign}")
            self.wrong_at(f"letters a ; proc main {{ }} \n |{sign} ")
            self.wrong_at(f"letters|{sign}")

    def test_signs_behind_a_wrong_word(self):
        self.wrong_at("|letter@ a ; proc main { }")
        self.wrong_at("letters |or@ a ; proc main { }")
        self.wrong_at("letters a ; |main@ { }")

    def test_words_that_cannot_stand(self):
        for text in ("|a", "|proc main { }", "|;", "|{", "|}", "|letter a ;", "|lettersa ;", "|letters1 a",
                     "letters |; proc main { }", "letters |{ a", "letters a |{ }", "letters a b |} ;",
                     "letters |letters a ;", "letters a |proc main { }", "letters a ; |; proc main { }",
                     "letters a ; |main { }", "letters a ; |letters b ;", "letters a ; |{ }", "letters a ; |}",
                     "letters a ; proc |{ }", "letters a ; proc |; { }", "letters a ; proc |} { }",
                     "letters a ; proc |proc { }", "letters a ; proc main |; }", "letters a ; proc main |do a ;",
                     "letters a ; proc main |main { }", "letters a ; proc main |}"):
            self.wrong_at(text)

    def test_words_that_cannot_stand_in_a_body(self):
        for body in ("|;", "|{ }", "|a ;", "|main", "|or { }", "|finally { }", "|proc p { }", "|letters a ;", "|1",
                     "do |; }", "do |do ;", "do |{ }", "do |} ;", "do a |}", "do a |b ;", "do a |{ }", "do a |do a ;",
                     "undo |;", "undo a |}", "undo |undo", "call |;", "call main |}", "call |{", "return |}",
                     "return |a ;", "return |return ;", "return |{ }", "do a ; |; }", "return ; |; }",
                     "loop |; }", "loop |a", "loop |do a ;", "loop |}", "loop { } |; }", "loop { } |or { }",
                     "loop { } |finally { }", "loop { |or", "choose |; }", "choose |a", "choose |or", "choose |}",
                     "choose { } |}", "choose { } |;", "choose { } |{ }", "choose { } |finally { }",
                     "choose { } |do a ;", "choose { } |choose", "choose { } or |or", "choose { } or |;",
                     "choose { } or |}", "choose { } or |do", "choose { } or { } |; }", "choose { } or { } |{ }",
                     "choose { } or { } |finally", "choose { } or { } or |}", "choose { } or { } or { } or |or",
                     "ensure |; }", "ensure |finally", "ensure |}", "ensure |a", "ensure { } |}", "ensure { } |;",
                     "ensure { } |or { }", "ensure { } |{ }", "ensure { } |do a ;", "ensure { } finally |;",
                     "ensure { } finally |}", "ensure { } finally |finally", "ensure { } finally { } |finally { }",
                     "ensure { } finally { } |or { }", "ensure { } finally { } |; }"):
            self.wrong_at("letters a ; proc main { " + body)
            self.wrong_at("letters a;proc main{loop{" + body)

    def test_names_beyond_the_bounds(self):
        for name in ("abcdefghijk", "a2345678901", "a" * 500, "0", "1a", "9z9", "12345678901", *KEPT_WORDS):
            for text in (f"letters |{name} ; proc main {{ }}", f"letters a |{name} b ; proc main {{ }}",
                         f"letters a ; proc |{name} {{ }}", f"letters a ; proc a {{ }} proc |{name}{{",
                         f"letters a ; proc main {{ do |{name} ; }}", f"letters a ; proc main {{ undo |{name}; }}",
                         f"letters a ; proc main {{ call |{name} ; }}"):
                self.wrong_at(text)

    def test_words_behind_the_end(self):
        for more in ("a", ";", "{", "}", "letters", "do", "or", "finally", "return", "1", "@"):
            self.wrong_at("letters a ; proc main { } |" + more)
            self.wrong_at("letters a;proc main{}|" + (more if more in ";{}@" else "}" + more))
            self.wrong_at(RICH_TEXT + "\n|" + more)

    def test_the_first_of_two(self):
        self.wrong_at("letters a ; proc main { |or do 1 ; @ }")
        self.wrong_at("letters |1 ; @")
        self.wrong_at("letters a ; proc main { do a |@ } or")


class OpenBraces(Places):
    def test_fortieth_open(self):
        for wrap in ("loop{", "ensure{", "choose{", "ensure{}finally{", "choose{}or{", "choose{}or{}or{", "do a;loop{"):
            for many in (37, 38, 39, 45):
                text = "letters a;proc main{" + wrap * many
                if many <= 38:
                    self.wrong(text, len(text))
                else:
                    # Behind the thirty-eighth one 39 are open.
                    self.wrong(text, len("letters a;proc main{" + wrap * 39) - 1 - self.inner(wrap))
                    self.wrong(text + "@", len("letters a;proc main{" + wrap * 39) - 1 - self.inner(wrap))

    @staticmethod
    def inner(wrap):
        """How far ahead of the wrap's last { its first one stands, if this is the fortieth too."""
        return len(wrap) - 1 - wrap.index("{")

    def test_thirty_nine_open_may_stand(self):
        text = "letters a;proc main{" + "loop{" * 38 + "}" * 39
        self.wrong(text, len(text))
        self.wrong(text + " ", len(text) + 1)
        self.wrong(text + "}", len(text))

    def test_each_procedure_counts_anew(self):
        text = "letters a;" + "".join("proc p{" + "loop{" * 11 + "}" * 12 for k in range(8))
        self.assertEqual(len(read_program(text)[1]), 8)
        text = "letters a;proc p{" + "loop{}" * 50 + "}"
        self.assertEqual(len(read_program(text)[1][0][1]), 50)


class TooEarly(Places):
    def test_every_beginning_of_a_text(self):
        words = RICH_TEXT.split(" ")
        whole = [at for at in range(len(words)) if words[at:at + 1] == ["proc"]] + [len(words)]
        for many in range(len(words)):
            text = " ".join(words[:many])
            if many in whole[1:]:
                self.assertEqual(len(read_program(text)[1]), whole.index(many))
            else:
                self.wrong(text, len(text))
                self.wrong(text + " \n ", len(text) + 3)
                self.wrong("\n" + text, len(text) + 1)

    def test_empty_texts(self):
        self.wrong("", 0)
        self.wrong(" ", 1)
        self.wrong("\n \n", 3)
        self.wrong("letters", 7)
        self.wrong("letters ", 8)
        self.wrong("letters a;", 10)


class NoProgram(Places):
    def bounded(self, make, greatest):
        """What make makes of greatest is a text, what it makes of more goes wrong at its end."""
        read_program(make(greatest))
        for many in (greatest + 1, greatest + 2, 3 * greatest):
            text = make(many)
            self.wrong(text, len(text))
            self.wrong(text + "\n  ", len(text) + 3)
            self.wrong(text + ";", len(text))

    def test_letters(self):
        self.bounded(lambda n: f"letters {'a ' * n};proc main{{}}", 20)

    def test_procedures(self):
        self.bounded(lambda n: "letters a;" + "proc p{do a;}" * n, 8)

    def test_bodies(self):
        self.bounded(lambda n: "letters a;proc p{choose{}" + "or{do a;}" * (n - 1) + "}", 6)

    def test_statements_of_a_body(self):
        self.bounded(lambda n: "letters a;proc p{" + "do a;" * n + "}", 60)
        self.bounded(lambda n: "letters a;proc p{ensure{}finally{" + "do a;" * n + "}}", 60)

    def test_statements_together(self):
        loop = "loop{" + "do a;" * 49 + "}"
        self.bounded(lambda n: "letters a;proc p{" + loop * (n // 50) + "do a;" * (n % 50) + "}", 200)

    def test_chains(self):
        self.bounded(lambda n: "letters a;proc p{" + "loop{" * (n - 1) + "do a;" + "}" * n, 12)
        text = "letters a;proc p{" + "loop{" * 13 + "}" * 14
        self.wrong(text, len(text))
        self.assertEqual(len(read_program("letters a;proc p{" + "loop{" * 12 + "}" * 13)), 2)

    def test_a_wrong_word_comes_first(self):
        self.wrong_at("letters " + "a " * 30 + "|proc")
        self.wrong_at("letters a;" + "proc p{}" * 12 + "|;")
        self.wrong_at("letters a;proc p{" + "do a;" * 5000 + "|;}")


class ByChance(Places):
    def test_changed_words(self):
        chance = random.Random(11)
        pool = [*KEPT_WORDS, "{", "}", ";", "a", "main", "1", "abcdefghijk", "A", "@", "{", "}", ";"]
        seen = {"right": 0, "wrong": 0}
        for program in made_programs(300):
            words = write_program(program).split(" ")
            for _ in range(8):
                changed = list(words)
                for _ in range(chance.randrange(1, 3)):
                    at = chance.randrange(len(changed))
                    changed[at:at + chance.randrange(2)] = [chance.choice(pool)] * chance.randrange(2)
                self.compare(changed, seen)
        self.assertGreater(min(seen.values()), 50)

    def compare(self, words, seen):
        """The reader goes wrong just where the grammar above does."""
        text = ""
        places = []
        for word in words:
            places.append(len(text) + 1)
            text += " " + word
        at = first_wrong(words)
        if at is not None:
            seen["wrong"] += 1
            self.wrong(text, [*places, len(text)][at])
            return
        seen["right"] += 1
        try:
            self.assertEqual(write_program(read_program(text)), text[1:])
        except BadText as error:
            self.assertEqual(error.place, len(text))
