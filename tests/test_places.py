"""Promises [7] and [8]: programs laid out as places, and what runs on them leave."""

import unittest

from undoneall.errors import BadName, BadProgram, BadRun, NotChecked, TooGreat
from undoneall.places import places
from undoneall.programs import read_program
from undoneall.runs import is_run, least_run, run_length, run_text, small_words
from tests.plain_runs import TooMany, programs_by_chance, runs_by_places, runs_by_text
from tests.samples import DO, NESTED, RETURN, STRANGE, UNDO, main_only, with_places

END = ("end",)


def first_laid(body, letters="a", more=""):
    """The layout of the first procedure of a program that is told by its text."""
    return places(read_program(f"letters {letters} ; proc main {{ {body} }} {more}"))[0]


class Statements(unittest.TestCase):
    def test_example(self):
        self.assertEqual(first_laid("choose { do a ; call main ; undo a ; } or { }"),
                         (4, (END, ("letter", -1, 0), ("call", 0, 1), ("letter", 1, 2), ("fork", (3, 0)))))

    def test_empty_bodies(self):
        self.assertEqual(first_laid(""), (0, (END,)))
        self.assertEqual(first_laid("return ;"), (0, (END,)))
        self.assertEqual(first_laid("ensure { } finally { }"), (0, (END,)))
        self.assertEqual(first_laid("loop { }"), (1, (END, ("fork", (1, 0)))))
        self.assertEqual(first_laid("choose { } or { } or { }"), (1, (END, ("fork", (0, 0, 0)))))

    def test_letters_and_calls(self):
        self.assertEqual(first_laid("do a ; undo c ; do b ;", "a b c"),
                         (3, (END, ("letter", 2, 0), ("letter", -3, 1), ("letter", 1, 2))))
        self.assertEqual(first_laid("call q ; call p ;", more="proc p { } proc q { do a ; }"),
                         (2, (END, ("call", 1, 0), ("call", 2, 1))))
        many = "a b c d e f g h i j k l m n o p q r s t"
        self.assertEqual(first_laid("undo t ; do t ;", many), (2, (END, ("letter", 20, 0), ("letter", -20, 1))))

    def test_choose(self):
        self.assertEqual(first_laid("do b ; choose { do a ; undo a ; } or { do b ; } or { } undo b ;", "a b"),
                         (6, (END, ("letter", -2, 0), ("letter", -1, 1), ("letter", 1, 2), ("letter", 2, 1),
                              ("fork", (3, 4, 1)), ("letter", 2, 5))))

    def test_loops(self):
        self.assertEqual(first_laid("loop { do a ; undo b ; } do b ;", "a b"),
                         (2, (END, ("letter", 2, 0), ("fork", (4, 1)), ("letter", -2, 2), ("letter", 1, 3))))
        self.assertEqual(first_laid("loop { loop { do a ; } }"),
                         (1, (END, ("fork", (2, 0)), ("fork", (3, 1)), ("letter", 1, 2))))

    def test_returns(self):
        self.assertEqual(first_laid("do a ; return ; undo a ;"), (2, (END, ("letter", -1, 0), ("letter", 1, 0))))
        self.assertEqual(first_laid("loop { do a ; return ; } undo a ;"),
                         (2, (END, ("letter", -1, 0), ("fork", (3, 1)), ("letter", 1, 0))))
        self.assertEqual(first_laid("choose { return ; } or { do a ; } undo a ;"),
                         (3, (END, ("letter", -1, 0), ("letter", 1, 1), ("fork", (0, 2)))))

    def test_ensures(self):
        self.assertEqual(first_laid("ensure { do a ; } finally { do b ; undo b ; } undo a ;", "a b"),
                         (4, (END, ("letter", -1, 0), ("letter", -2, 1), ("letter", 2, 2), ("letter", 1, 3))))

    def test_returns_within_ensures(self):
        self.assertEqual(first_laid("ensure { do c ; return ; undo c ; } finally { do b ; } undo a ;", "a b c"),
                         (5, (END, ("letter", -1, 0), ("letter", 2, 1), ("letter", -3, 2), ("letter", 2, 0),
                              ("letter", 3, 4))))
        # The second body of the outer ensure is laid ahead of that of the inner one, and anew for each return.
        self.assertEqual(first_laid("ensure { ensure { choose { return ; } or { return ; } } finally { do b ; } } "
                                    "finally { do a ; do c ; }", "a b c"),
                         (10, (END, ("letter", 3, 0), ("letter", 1, 1), ("letter", 2, 2), ("letter", 3, 0),
                               ("letter", 1, 4), ("letter", 2, 5), ("letter", 3, 0), ("letter", 1, 7), ("letter", 2, 8),
                               ("fork", (6, 9)))))

    def test_second_bodies_with_all_kinds(self):
        self.assertEqual(first_laid("ensure { return ; } finally { loop { call main ; } ensure { undo a ; } "
                                    "finally { } }"),
                         (5, (END, ("letter", -1, 0), ("fork", (3, 1)), ("call", 0, 2), ("letter", -1, 0),
                              ("fork", (6, 4)), ("call", 0, 5))))

    def test_calls_do_not_take_returns_along(self):
        program = read_program("letters a ; proc main { ensure { call p ; } finally { do a ; } } proc p { return ; }")
        self.assertEqual(places(program=program),
                         ((2, (END, ("letter", 1, 0), ("call", 1, 1))), (0, (END,))))


class Runs(unittest.TestCase):
    def test_words_by_places_are_those_by_the_text(self):
        seen = 0
        for program, name in programs_by_chance(3, 900):
            layout = places(program)
            index = [procedure[0] for procedure in program[1]].index(name)
            try:
                expected = runs_by_text(program, name, 11)
                found = runs_by_places(layout, index, 11)
            except TooMany:
                continue
            self.assertEqual(found, expected, program)
            seen += len(found)
        self.assertGreater(seen, 1500)


class Bounds(unittest.TestCase):
    def calls(self, program):
        """All that lays the program out."""
        rows = ((0, 0, 0, ()),)
        return (lambda: places(program), lambda: is_run(program, rows), lambda: is_run(program, None),
                lambda: run_length(program, rows), lambda: run_text(program, None), lambda: least_run(program, "main"),
                lambda: small_words(program, "main", 3))

    def test_three_hundred_places_and_one_more(self):
        for many in (1, 2, 54, 100, 299, 300):
            program = with_places(many)
            self.assertEqual(len(places(program)[0][1]), many)
            for call in self.calls(program)[:3]:
                call()
        for many in (301, 302, 350):
            for call in self.calls(with_places(many)):
                with self.assertRaises(TooGreat):
                    call()

    def test_procedures_that_are_not_called(self):
        great = with_places(301)[1][0][1]
        for program in ((("a",), (("main", ()), ("p", great))), (("a",), (("main", (("call", "p"),)), ("p", great)))):
            for call in self.calls(program):
                with self.assertRaises(TooGreat):
                    call()
        fit = with_places(300)[1][0][1]
        self.assertEqual([len(part[1]) for part in places((("a",), (("main", ()), ("p", fit))))], [1, 300])
        many = (("a",), tuple((f"p{at}", fit) for at in range(4)))
        self.assertEqual([len(part[1]) for part in places(many)], [300] * 4)

    def test_all_that_is_laid_counts(self):
        for returns, behind, many in ((4, 0, 251), (4, 49, 300), (4, 50, 301), (5, 0, 300), (5, 1, 301)):
            program = main_only(("ensure", (("choose", ((RETURN,),) * 2), *((RETURN,) * (returns - 2))), (DO,) * 49),
                                *((UNDO,) * (behind + 4)))
            if many <= 300:
                self.assertEqual(len(places(program)[0][1]), many)
            else:
                with self.assertRaises(TooGreat):
                    places(program)
        nest = (RETURN,) * 40
        for _ in range(10):
            nest = (("ensure", nest, (DO,) * 10),)
        with self.assertRaises(TooGreat):
            places(main_only(*nest))

    def test_errors_in_sequence(self):
        great = with_places(301)
        with self.assertRaises(BadName):
            least_run(great, "p")
        with self.assertRaises(BadName):
            small_words(great, None, -1)
        with self.assertRaises(TooGreat):
            run_length(great, None)
        faulty = (("a", "a"), great[1])
        for call in self.calls(faulty):
            with self.assertRaises(NotChecked) as caught:
                call()
            self.assertEqual(caught.exception.what, ("letter", "a"))
        for thing in (*STRANGE, *NESTED, (("a",), ()), main_only(("do",))):
            for call in self.calls(thing):
                with self.assertRaises(BadProgram):
                    call()
        with self.assertRaises(BadRun):
            run_length(with_places(300), None)

    def test_not_checked(self):
        for body, what in (((("do", "b"),), ("letter", "main")), ((("call", "p"),), ("call", "main")),
                           ((("ensure", (), (RETURN,)),), ("return", "main"))):
            with self.assertRaises(NotChecked) as caught:
                places(main_only(*body))
            self.assertEqual(caught.exception.what, what)


if __name__ == "__main__":
    unittest.main()
