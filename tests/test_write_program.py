"""Promise [6]: the text of a program, and the way back."""

import itertools
import random
import unittest

from undoneall.errors import BadProgram
from undoneall.programs import is_program, read_program, write_program
from tests.samples import DO, KEPT_WORDS, RETURN, STRANGE, chain, main_only, many_statements

RICH = (("lock", "b2"), (
    ("main", (("do", "lock"), ("choose", ((("call", "main"),), ())), ("undo", "lock"))),
    ("p", (("loop", (("ensure", (RETURN,), (("undo", "b2"),)),)), ("choose", ((), (), (("do", "b2"), RETURN))))),
))
RICH_TEXT = ("letters lock b2 ; proc main { do lock ; choose { call main ; } or { } undo lock ; } "
             "proc p { loop { ensure { return ; } finally { undo b2 ; } } choose { } or { } or { do b2 ; return ; } }")


def made_body(chance, depth):
    """A body by chance."""
    return tuple(made_statement(chance, depth) for _ in range(chance.randrange(4)))


def made_statement(chance, depth):
    """A statement by chance."""
    word = chance.choice(("do", "undo", "call", "return", "choose", "loop", "ensure") if depth else ("do", "return"))
    if word == "return":
        return RETURN
    if word in ("do", "undo", "call"):
        return (word, chance.choice(("a", "b2", "main", "p", "abcdefghij")))
    if word == "choose":
        return (word, tuple(made_body(chance, depth - 1) for _ in range(chance.randrange(2, 7))))
    return (word, *(made_body(chance, depth - 1) for _ in range(1 if word == "loop" else 2)))


def made_programs(count):
    """Programs by chance, faulty ones among them."""
    chance = random.Random(7)
    found = []
    while len(found) < count:
        letters = tuple(chance.choice(("a", "b2", "cc")) for _ in range(chance.randrange(1, 4)))
        names = [chance.choice(("main", "p", "a")) for _ in range(chance.randrange(1, 4))]
        program = (letters, tuple((name, made_body(chance, 3)) for name in names))
        if is_program(program):
            found.append(program)
    return found


class Written(unittest.TestCase):
    def test_texts(self):
        self.assertEqual(write_program(RICH), RICH_TEXT)
        self.assertEqual(write_program(program=main_only()), "letters a ; proc main { }")
        self.assertEqual(write_program((("a", "a"), (("p", (DO,)), ("p", (("loop", ()), ("ensure", (), ())))))),
                         "letters a a ; proc p { do a ; } proc p { loop { } ensure { } finally { } }")

    def test_faulty_programs_are_written(self):
        self.assertEqual(write_program(main_only(("do", "x"), ("call", "y"), ("ensure", (), (RETURN,)))),
                         "letters a ; proc main { do x ; call y ; ensure { } finally { return ; } }")

    def test_what_is_no_program(self):
        for thing in (*STRANGE, list(RICH), main_only(("do", "letters")), main_only(chain(13)), (("a",), ())):
            with self.assertRaises(BadProgram):
                write_program(thing)

    def test_greatest_programs(self):
        for program in (main_only(*many_statements(200)), main_only(chain(12)), main_only(*(DO,) * 60),
                        (tuple(f"l{k}" for k in range(20)), tuple((f"p{k}", ()) for k in range(8)))):
            self.assertEqual(read_program(write_program(program)), program)


class ThereAndBack(unittest.TestCase):
    def test_programs_by_chance(self):
        for program in made_programs(400):
            text = write_program(program)
            self.assertEqual(text, " ".join(text.split()))
            self.assertEqual(read_program(text), program)
            self.assertEqual(read_program(text=text), program)

    def test_any_number_of_blanks_and_line_feeds(self):
        chance = random.Random(3)
        for program in made_programs(60):
            words = write_program(program).split(" ")
            for gaps in ((" ",), ("\n",), ("  \n \n\n   ",), (" ", "\n", "  ", "\n\n", " \n ")):
                text = "".join(chance.choice(gaps) + word for word in words) + chance.choice(gaps)
                self.assertEqual(read_program(text), program)

    def test_none_beside_braces_and_semicolons(self):
        for program in made_programs(60):
            text = write_program(program)
            for sign in "{};":
                text = text.replace(f" {sign}", sign).replace(f"{sign} ", sign)
            self.assertEqual(read_program(text), program)
            self.assertNotIn("; ", text)

    def test_blanks_are_needed_between_letters_and_digits(self):
        self.assertEqual(read_program("letters a;proc main{do a;}"), main_only(DO))
        self.assertEqual(read_program("letters a1 b;proc main{}"), (("a1", "b"), (("main", ()),)))
        self.assertEqual(read_program("letters a1b;proc main{}"), (("a1b",), (("main", ()),)))

    def test_every_sign_of_a_name(self):
        for sign in "abcdefghijklmnopqrstuvwxyz":
            self.assertEqual(read_program(f"letters {sign}\n;proc {sign}{{do {sign};}}"),
                             ((sign,), ((sign, (("do", sign),)),)))
        for sign in "abcdefghijklmnopqrstuvwxyz0123456789":
            name = "x" + sign + "y"
            self.assertEqual(read_program(f"letters {name};proc {name}{{}}"), ((name,), ((name, ()),)))

    def test_results_are_tuples_of_strs(self):
        seen = [read_program(RICH_TEXT)]
        while seen:
            thing = seen.pop()
            self.assertIn(type(thing), (tuple, str))
            if type(thing) is tuple:
                seen.extend(thing)

    def test_words_that_look_like_kept_ones(self):
        for word, more in itertools.product(KEPT_WORDS, ("x", "1")):
            name = (word + more)[:10]
            if name not in KEPT_WORDS:
                self.assertEqual(read_program(f"letters {name};proc {name}{{do {name};call {name};}}"),
                                 ((name,), ((name, (("do", name), ("call", name))),)))
