"""Promise [5]: what is wrong first with a program."""

import unittest

from undoneall.checks import check, checked
from undoneall.errors import BadProgram, DeedError, NotChecked
from tests.samples import DO, RETURN, STRANGE, chain, main_only

NO_LETTER = ("do", "x")
NO_UNDO = ("undo", "x")
NO_CALL = ("call", "x")
NOT_LET = ("ensure", (), (RETURN,))
WRAPS = (
    lambda *body: ("loop", body),
    lambda *body: ("choose", (body, ())),
    lambda *body: ("choose", ((), (DO,), body)),
    lambda *body: ("ensure", body, ()),
    lambda *body: ("ensure", (), body),
)


class Checked(unittest.TestCase):
    def judge(self, program, expected):
        """check returns what is expected, and checked goes by it."""
        self.assertEqual(check(program), expected)
        self.assertEqual(check(program=program), expected)
        if expected is None:
            self.assertIsNone(checked(program))
            self.assertIsNone(checked(program=program))
        else:
            self.assertIs(type(check(program)), tuple)
            with self.assertRaises(NotChecked) as caught:
                checked(program=program)
            self.assertEqual(caught.exception.what, expected)


class Letters(Checked):
    def test_double_letters(self):
        body = (("main", ()),)
        self.judge((("a", "b", "c"), body), None)
        self.judge((("a", "a"), body), ("letter", "a"))
        self.judge((("a", "b", "b", "a"), body), ("letter", "b"))
        self.judge((("a", "b", "a", "b"), body), ("letter", "a"))
        self.judge((("c", "a", "b", "a", "a", "b"), body), ("letter", "a"))

    def test_do_and_undo_of_no_letter(self):
        self.judge(main_only(("do", "a"), ("undo", "a")), None)
        for statement in (NO_LETTER, NO_UNDO, ("do", "main"), ("undo", "main")):
            self.judge(main_only(statement), ("letter", "main"))
            self.judge((("a",), (("main", ()), ("b", (DO, statement)))), ("letter", "b"))
        self.judge((("main",), (("main", (("do", "main"),)),)), None)


class Procedures(Checked):
    def test_double_procedures(self):
        letters = ("a",)
        self.judge((letters, (("p", ()), ("q", ()), ("r", ()))), None)
        self.judge((letters, (("p", ()), ("p", ()))), ("double", "p"))
        self.judge((letters, (("p", ()), ("q", ()), ("q", ()), ("p", ()))), ("double", "q"))
        self.judge((letters, (("p", ()), ("q", ()), ("p", ()), ("q", ()))), ("double", "p"))
        self.judge((letters, (("a", ()),)), None)

    def test_calls(self):
        self.judge(main_only(("call", "main")), None)
        self.judge((("a",), (("main", (("call", "later"),)), ("later", ()))), None)
        self.judge(main_only(NO_CALL), ("call", "main"))
        self.judge(main_only(("call", "a")), ("call", "main"))
        self.judge((("a",), (("main", ()), ("other", (NO_CALL,)))), ("call", "other"))


class Returns(Checked):
    def test_returns_that_are_let(self):
        self.judge(main_only(RETURN), None)
        self.judge(main_only(RETURN, RETURN, DO), None)
        self.judge(main_only(("ensure", (RETURN,), ())), None)
        self.judge(main_only(("ensure", (RETURN,), (DO,)), RETURN), None)
        self.judge(main_only(("ensure", (("ensure", (RETURN,), ()),), ())), None)
        self.judge(main_only(("loop", (RETURN,)), ("choose", ((RETURN,), (RETURN,)))), None)
        self.judge(main_only(("ensure", (("loop", (RETURN,)),), (("loop", (DO,)),))), None)

    def test_returns_within_a_second_body(self):
        self.judge(main_only(NOT_LET), ("return", "main"))
        self.judge(main_only(("ensure", (RETURN,), (DO, RETURN))), ("return", "main"))
        self.judge((("a",), (("main", (RETURN,)), ("other", (NOT_LET,)))), ("return", "other"))
        self.judge(main_only(("ensure", (NOT_LET,), ())), ("return", "main"))

    def test_at_any_depth(self):
        for outer in WRAPS:
            for inner in WRAPS:
                self.judge(main_only(("ensure", (), (outer(inner(RETURN)),))), ("return", "main"))
                self.judge(main_only(outer(("ensure", (), (inner(RETURN),)))), ("return", "main"))
                self.judge(main_only(outer(inner(NOT_LET))), ("return", "main"))
        for many in range(1, 12):
            self.judge(main_only(("ensure", (), (chain(many, RETURN),))), ("return", "main"))
            self.judge(main_only(("ensure", (chain(many, RETURN),), ())), None)

    def test_first_body_within_a_second_one(self):
        self.judge(main_only(("ensure", (), (("ensure", (RETURN,), ()),))), ("return", "main"))
        self.judge(main_only(("ensure", (), (("ensure", (DO,), (DO,)),))), None)

    def test_behind_a_second_body(self):
        self.judge(main_only(("ensure", (), (DO,)), RETURN), None)
        self.judge(main_only(("ensure", (("ensure", (), (DO,)), RETURN), ())), None)
        self.judge(main_only(("choose", ((DO, RETURN), (RETURN,)))), None)
        self.judge(main_only(("choose", ((("ensure", (), (DO,)),), (RETURN,)))), None)


class Order(Checked):
    def test_two_in_one_body(self):
        faults = ((NO_LETTER, "letter"), (NO_UNDO, "letter"), (NO_CALL, "call"), (NOT_LET, "return"))
        for one, first in faults:
            for other, second in faults:
                self.judge(main_only(one, other), (first, "main"))
                self.judge(main_only(DO, other, DO, one), (second, "main"))
                for wrap in WRAPS:
                    self.judge(main_only(wrap(one), other), (first, "main"))
                    self.judge(main_only(one, wrap(other)), (first, "main"))
                    self.judge(main_only(wrap(DO, one, other)), (first, "main"))
                self.judge(main_only(("ensure", (one,), (other,))), (first, "main"))
                self.judge(main_only(("choose", ((), (one,), (other,)))), (first, "main"))

    def test_procedures_in_order(self):
        faults = ((NO_LETTER, "letter"), (NO_CALL, "call"), (NOT_LET, "return"))
        for one, first in faults:
            for other, second in faults:
                self.judge((("a",), (("p", (one,)), ("q", (other,)))), (first, "p"))
                self.judge((("a",), (("p", (other,)), ("q", (one,)))), (second, "p"))
                self.judge((("a",), (("p", ()), ("q", (chain(5, one),)), ("r", (other,)))), (first, "q"))

    def test_letters_then_doubles_then_bodies(self):
        for fault in (NO_LETTER, NO_CALL, NOT_LET):
            self.judge((("a", "a"), (("p", (fault,)), ("q", ()), ("q", ()))), ("letter", "a"))
            self.judge((("a", "a"), (("p", ()), ("q", (fault,)), ("q", ()))), ("letter", "a"))
            self.judge((("a",), (("p", (fault,)), ("q", ()), ("q", ()))), ("double", "q"))
            self.judge((("a",), (("p", ()), ("p", ()), ("q", (fault,)))), ("double", "p"))
        self.judge((("a", "b", "b"), (("p", ()), ("p", ()))), ("letter", "b"))

    def test_a_text_in_order(self):
        inner = ("ensure", (DO, ("choose", ((), (NO_CALL,)))), (RETURN, NO_LETTER))
        self.judge(main_only(DO, ("loop", (inner, NO_UNDO))), ("call", "main"))
        inner = ("ensure", (DO, ("choose", ((), ()))), (RETURN, NO_LETTER))
        self.judge(main_only(DO, ("loop", (inner, NO_CALL))), ("return", "main"))


class Refused(unittest.TestCase):
    def test_what_is_no_program(self):
        for thing in (*STRANGE, main_only(DO, ("do",)), main_only(NO_LETTER, ("do",)), (("a", "a"), ())):
            for function in (check, checked):
                with self.assertRaises(BadProgram):
                    function(thing)

    def test_not_checked_is_no_bad_program(self):
        with self.assertRaises(DeedError) as caught:
            checked(main_only(NO_LETTER))
        self.assertIs(type(caught.exception), NotChecked)

    def test_equal_calls_give_equal_results(self):
        program = main_only(DO, NO_CALL)
        self.assertEqual([check(program) for _ in range(3)], [("call", "main")] * 3)
        self.assertEqual(program, main_only(DO, NO_CALL))
