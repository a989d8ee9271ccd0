"""Promises [3] and [26]: what texts of programs leave, and two of them side by side."""

import unittest

from undoneall.errors import BadText, NotChecked, TooGreat, Unlike
from undoneall.places import places
from undoneall.programs import read_program, write_program
from undoneall.residues import is_two, residue
from undoneall.runs import is_run
from undoneall.shrinking import first_unlike, repeated, written
from undoneall.standing import is_keeping, is_wrong, keeps, standing
from undoneall.steps import stepped, tidied
from undoneall.whole import compared, settled
from tests.faults import GREAT, check_names_of_parameters
from tests.keeping_programs import keeping_programs
from tests.plain_runs import programs_by_chance
from tests.plain_standing import row_words
from tests.samples import STRANGE, with_places

NONE = (("none",),)


def text_of(main, more="", letters="a b"):
    """The text of a program with this main procedure."""
    return f"letters {letters} ; proc main {{ {main} }} {more}"


SEVERAL = text_of("loop { do a ; }")
NEVER = text_of("call main ;")
ONCE = text_of("do a ; do b ;")
LONG = "proc p { " + "call q ; " * 50 + "} proc q { " + "call r ; " * 50 + "} proc r { do a ; do b ; }"
GREAT_TEXT = write_program(GREAT)
NO_TEXTS = ((None, 0), (7, 0), (b"letters", 0), ("", 0), ("letters", 7), ("letters a ; proc main {", 23), ("Letters",
                                                                                                           0),
            ("letters a ; proc main { } }", 26), (("letters",), 0), (True, 0), ("letters a ; proc main { do b }", 29))
FAULTS = ((text_of("do c ;"), ("letter", "main")), (text_of("", "proc main { }"), ("double", "main")),
          (text_of("call q ;"), ("call", "main")), (text_of("", letters="a a"), ("letter", "a")),
          (text_of("ensure { } finally { return ; }"), ("return", "main")))


class Settled(unittest.TestCase):
    def test_none(self):
        self.assertEqual(settled(NEVER), ("none",))
        self.assertEqual(settled(text_of("do a ; loop { } call p ;", "proc p { call main ; }")), ("none",))

    def test_one(self):
        self.assertEqual(settled(text_of("")), ("one", NONE))
        self.assertEqual(settled("letters a;proc main{}"), ("one", NONE))
        self.assertEqual(settled(ONCE), ("one", written((1, 2))))
        self.assertEqual(settled(text_of("choose { call main ; } or { do a ; undo a ; } or { }")), ("one", NONE))
        self.assertEqual(settled(text_of("ensure { do a ; return ; do b ; } finally { undo b ; }")),
                         ("one", written((1, -2))))
        self.assertEqual(settled(text_of("call p ;", LONG)), ("one", repeated(written((1, 2)), 2500)))

    def test_two(self):
        word, left, right = settled(SEVERAL)
        self.assertEqual(word, "two")
        self.assertIs(is_two(read_program(SEVERAL), "main", (left, right)), True)

    def test_the_main_procedure_is_the_first_one(self):
        text = "letters a ; proc p { do a ; } proc main { loop { do a ; } } proc q { call q ; }"
        self.assertEqual(settled(text), ("one", written((1,))))
        word, *runs = settled("letters a ; proc q { loop { do a ; } } proc p { do a ; }")
        self.assertEqual([rows[-1][0] for rows in runs], [0, 0])

    def test_what_residue_tells(self):
        for program, _ in (*programs_by_chance(81, 200), *keeping_programs(82, 80)):
            name = program[1][0][0]
            told = settled(write_program(program))
            expected = residue(program, name)
            self.assertEqual(told[0], expected[0])
            if told[0] == "one":
                self.assertEqual(told, expected[:2])
            elif told[0] == "two":
                self.assertIs(is_two(program, name, told[1:]), True)
                self.assertTrue(all(is_run(program, rows) for rows in told[1:]))

    def test_errors_in_sequence(self):
        for thing, place in NO_TEXTS:
            with self.assertRaises(BadText) as caught:
                settled(thing)
            self.assertEqual(caught.exception.place, place)
        for thing in STRANGE:
            with self.assertRaises(BadText):
                settled(thing)
        for text, what in FAULTS:
            with self.assertRaises(NotChecked) as caught:
                settled(text)
            self.assertEqual(caught.exception.what, what)
        for program in (GREAT, (("a",), (("main", ()), ("p", GREAT[1][0][1])))):
            with self.assertRaises(TooGreat):
                settled(write_program(program))
            with self.assertRaises(NotChecked):
                settled(write_program((("a", "a"), program[1])))
        self.assertEqual(settled(write_program(with_places(300)))[0], "one")

    def test_names_of_parameters(self):
        check_names_of_parameters(self, settled, text=ONCE)
        check_names_of_parameters(self, compared, text=ONCE, other=SEVERAL)


class Compared(unittest.TestCase):
    def test_same(self):
        self.assertEqual(compared(ONCE, ONCE), ("same",))
        self.assertEqual(compared(ONCE, text_of("call p ; call q ;", "proc p { do a ; } proc q { choose { do b ; } or "
                                                                     "{ "
                                                                     "do a ; undo a ; do b ; } }")), ("same",))
        self.assertEqual(compared(text_of(""), text_of("do a ; undo a ;")), ("same",))
        self.assertEqual(compared(text_of("call p ;", LONG), text_of("call q ; " * 50, LONG.replace("p", "s").replace(
            "sroc", "proc"))), ("same",))

    def test_unlike(self):
        for main, place in (("", 0), ("do a ;", 1), ("do b ; do b ;", 0), ("do a ; undo b ;", 1),
                            ("do a ; do b ; do b ;", 2),
                            ("undo a ; do b ;", 0), ("do a ; do b ; undo b ;", 1), ("do a ; do a ; undo a ;", 1)):
            self.assertEqual(compared(ONCE, text_of(main)), ("unlike", place), main)
            self.assertEqual(compared(text_of(main), ONCE), ("unlike", place), main)

    def test_unlike_far_away(self):
        one = text_of("call p ; call p ; do a ;", LONG)
        other = text_of("call p ; call p ; do b ;", LONG)
        self.assertEqual(compared(one, other), ("unlike", 10000))
        self.assertEqual(compared(one, text_of("call p ; call p ;", LONG)), ("unlike", 10000))
        self.assertEqual(compared(one, text_of("call p ; do b ; call p ; do a ;", LONG)), ("unlike", 5000))
        self.assertEqual(compared(one, text_of("undo b ; call p ; call p ; do a ;", LONG)), ("unlike", 0))
        self.assertEqual(compared(one, other)[1], first_unlike(settled(one)[1], settled(other)[1]))

    def test_not_one(self):
        for text in (SEVERAL, NEVER):
            self.assertEqual(compared(text, ONCE), ("not one", 0))
            self.assertEqual(compared(ONCE, text), ("not one", 1))
            for other in (SEVERAL, NEVER):
                self.assertEqual(compared(text, other), ("not one", 0))

    def test_letters(self):
        for letters in ("a", "b a", "a b c", "a c"):
            other = text_of("do a ;", letters=letters)
            for one, second in ((ONCE, other), (other, ONCE), (SEVERAL, other), (other, NEVER)):
                with self.assertRaises(Unlike):
                    compared(one, second)

    def test_errors_in_sequence(self):
        good = (ONCE, SEVERAL, GREAT_TEXT, text_of("", letters="c"))
        for thing, place in NO_TEXTS:
            for other in (*good, FAULTS[0][0], "x"):
                with self.assertRaises(BadText) as caught:
                    compared(thing, other)
                self.assertEqual(caught.exception.place, place)
            for text in good:
                with self.assertRaises(BadText) as caught:
                    compared(text, thing)
                self.assertEqual(caught.exception.place, place)
        for faulty, what in FAULTS:
            for other in (*good, None, "", FAULTS[1][0]):
                with self.assertRaises(NotChecked) as caught:
                    compared(faulty, other)
                self.assertEqual(caught.exception.what, what)
            for text in good:
                with self.assertRaises(NotChecked) as caught:
                    compared(text, faulty)
                self.assertEqual(caught.exception.what, what)
        great = GREAT_TEXT.replace("letters a", "letters a b")
        for one, other in ((GREAT_TEXT, ONCE), (ONCE, GREAT_TEXT)):
            with self.assertRaises(Unlike):
                compared(one, other)
        for one, other in ((great, ONCE), (ONCE, great), (great, great), (great, SEVERAL)):
            with self.assertRaises(TooGreat):
                compared(one, other)


class MainProperty(unittest.TestCase):
    def test_over_the_whole(self):
        """What is left, what stands and what steps keep, from the same texts."""
        for program, _ in keeping_programs(83, 120):
            name = program[1][0][0]
            text = write_program(program)
            self.assertEqual(read_program(text), program)
            told = residue(program, name)
            other, _ = tidied(program)
            if told[0] == "one":
                self.assertEqual(compared(text, write_program(other)), ("same",))
                self.assertEqual(stepped(program, ("exchange", name, dict(other[1])[name]))[1][0], other[1][0])
            elif told[0] == "two":
                words = [row_words(places(program), rows)[-1] for rows in told[1:]]
                self.assertNotEqual(words[0], words[1])
                self.assertEqual(compared(text, text), ("not one", 0))
            if told[0] != "two" and all(residue(program, called)[0] != "two" for called, _ in program[1]):
                kept = keeps(program, name)
                judge = is_keeping if kept[0] == "keeps" else is_wrong
                self.assertIs(judge(program, name, kept[1]), True)
                if kept[0] == "keeps":
                    self.assertIn(standing(program, name)[0], ("most", "endless"))


if __name__ == "__main__":
    unittest.main()
