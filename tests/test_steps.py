"""Promises [24] and [25]: steps on programs, logs of them, and what each step keeps."""

import unittest

from undoneall.checks import check
from undoneall.errors import BadLog, NotLet, TooGreat
from undoneall.programs import is_program, read_program
from undoneall.residues import residue
from undoneall.steps import replayed, stepped, tidied
from tests.faults import GREAT, NOT_CHECKED, check_names_of_parameters, check_program_errors
from tests.keeping_programs import keeping_programs
from tests.plain import net_word, words_of
from tests.plain_runs import TooMany, programs_by_chance, runs_by_text
from tests.samples import DO, NESTED, RETURN, STRANGE, UNDO, as_lists, chain, main_only, replaced, with_places

B, UNDO_B = ("do", "b"), ("undo", "b")
KINDS = ("cancel", "front", "rear", "unroll", "inline", "prune", "still", "exchange")
NEVER = ("call", "never")


def two_letters(*body, more=()):
    """A program of the letters a and b, of main with this body and of further procedures."""
    return (("a", "b"), (("main", tuple(body)), *more))


def choose(*bodies):
    """A choose of these bodies."""
    return ("choose", tuple(bodies))


def loop(*body):
    """A loop with this body."""
    return ("loop", tuple(body))


def paths(body, ahead=()):
    """The paths of all statements of a body, with the statements."""
    for at, statement in enumerate(body):
        yield (*ahead, at), statement
        inner = statement[1] if statement[0] == "choose" else statement[1:] if statement[0] in ("loop",
                                                                                                "ensure") else ()
        for number, one in enumerate(inner):
            yield from paths(one, (*ahead, at, number))


class Stepping(unittest.TestCase):
    def is_let(self, program, step, *body):
        """The step is let, and makes this the body of the first procedure."""
        expected = (program[0], ((program[1][0][0], tuple(body)), *program[1][1:]))
        self.assertEqual(stepped(program, step), expected)
        self.assertEqual(replayed(program, (step,)), expected)

    def is_not_let(self, program, *steps):
        """None of the steps is let."""
        for step in steps:
            with self.assertRaises(NotLet) as caught:
                stepped(program, step)
            self.assertEqual(caught.exception.index, 0)
            with self.assertRaises(NotLet) as caught:
                replayed(program, (step,))
            self.assertEqual(caught.exception.index, 0)

    def is_too_great(self, program, step):
        """The step raises TooGreat."""
        with self.assertRaises(TooGreat):
            stepped(program, step)
        with self.assertRaises(TooGreat):
            replayed(program, (step,))


class Paths(Stepping):
    def test_each_kind_of_body(self):
        pair = (DO, UNDO)
        program = two_letters(choose((), (B, *pair)), loop(B, *pair), ("ensure", (B, *pair), (B, *pair)))
        self.is_let(program, ("cancel", "main", (0, 1, 1)), choose((), (B,)), *program[1][0][1][1:])
        self.is_let(program, ("cancel", "main", (1, 0, 1)), program[1][0][1][0], loop(B), program[1][0][1][2])
        self.is_let(program, ("cancel", "main", (2, 0, 1)), *program[1][0][1][:2], ("ensure", (B,), (B, *pair)))
        self.is_let(program, ("cancel", "main", (2, 1, 1)), *program[1][0][1][:2], ("ensure", (B, *pair), (B,)))
        for path in ((0, 0, 0), (0, 1), (0,), (0, 2, 1), (1, 1, 1), (2, 2, 1), (3, 0, 1), (-3, 1, 1), (0, -1, 1), (0, 1,
                                                                                                                   -2),
                     (0, 1, 3), (0, 1, 1, 0), (0, 1, 1, 0, 0), (), [0, 1, 1], (0, True, 1), (False, 1, 1), (0, "1", 1),
                     None,
                     0, "main", (None,), (0, 1, 2)):
            self.is_not_let(program, ("cancel", "main", path))

    def test_other_procedures(self):
        program = two_letters(B, more=(("p", (DO, UNDO)), ("q", (UNDO, DO))))
        self.assertEqual(stepped(program, ("cancel", "p", (0,))), two_letters(B, more=(("p", ()), program[1][2])))
        self.assertEqual(stepped(program, ("cancel", "q", (0,))), two_letters(B, more=(program[1][1], ("q", ()))))
        self.is_not_let(program, ("cancel", "main", (0,)), ("cancel", "r", (0,)), ("cancel", None, (0,)),
                        ("cancel", ("p",), (0,)), ("cancel", "", (0,)), ("cancel", 1, (0,)), ("cancel", ["p"], (0,)))

    def test_twenty_three_integers(self):
        program = main_only(chain(11, loop(DO, UNDO)))
        self.assertTrue(is_program(program))
        path = (0, 0) * 11 + (0,)
        self.assertEqual(len(path), 23)
        self.is_let(program, ("cancel", "main", path), chain(11, loop()))
        self.is_not_let(program, ("cancel", "main", path + (0, 0)), ("cancel", "main", path + (0,)),
                        ("cancel", "main", path[2:]), ("cancel", "main", path[:-1]))


class Cancels(Stepping):
    def test_let(self):
        self.is_let(main_only(DO, UNDO), ("cancel", "main", (0,)))
        self.is_let(main_only(UNDO, DO), ("cancel", "main", (0,)))
        self.is_let(main_only(DO, UNDO, DO), ("cancel", "main", (1,)), DO)
        self.is_let(two_letters(B, UNDO, DO, B), ("cancel", "main", (1,)), B, B)

    def test_not_let(self):
        self.is_not_let(two_letters(DO, DO, UNDO_B, UNDO, UNDO, RETURN, DO),
                        *[("cancel", "main", (at,)) for at in range(-1, 9)])
        self.is_not_let(two_letters(("call", "main"), UNDO, choose((), ()), DO),
                        *[("cancel", "main", (at,)) for at in range(4)])
        self.is_not_let(main_only(loop(DO), UNDO), ("cancel", "main", (0, 0, 0)), ("cancel", "main", (0,)))
        self.is_not_let(main_only(("call", "main"), ("call", "main")), ("cancel", "main", (0,)))


class FrontsAndRears(Stepping):
    def test_front(self):
        self.is_let(two_letters(B, choose((DO, B), (DO,)), UNDO), ("front", "main", (1,)), B, DO, choose((B,), ()),
                    UNDO)
        self.is_let(main_only(choose((DO,), (DO,), (DO,))), ("front", "main", (0,)), DO, choose((), (), ()))
        whole = loop(choose((), (RETURN,)))
        self.is_let(main_only(loop(choose((whole, RETURN), (whole, DO)))), ("front", "main", (0, 0, 0)),
                    loop(whole, choose((RETURN,), (DO,))))

    def test_rear(self):
        self.is_let(two_letters(B, choose((DO, B), (B,)), UNDO), ("rear", "main", (1,)), B, choose((DO,), ()), B, UNDO)
        self.is_let(main_only(choose((DO,), (DO,), (DO,))), ("rear", "main", (0,)), choose((), (), ()), DO)
        self.is_let(two_letters(choose((DO, RETURN, UNDO), (B, UNDO))), ("rear", "main", (0,)),
                    choose((DO, RETURN), (B,)), UNDO)

    def test_returns_do_not_go(self):
        program = main_only(choose((RETURN, DO), (RETURN,)), choose((DO, RETURN), (RETURN,)))
        self.is_not_let(program, *[(word, "main", (at,)) for at in (0, 1) for word in ("front", "rear")])

    def test_not_let(self):
        for bodies in (((), ()), ((DO,), ()), ((), (DO,)), ((DO,), (UNDO,)), ((DO,), (DO,), ()), ((DO,), (DO,), (B,)),
                       ((loop(DO),), (loop(),))):
            self.is_not_let(two_letters(choose(*bodies)), ("front", "main", (0,)), ("rear", "main", (0,)))
        self.is_not_let(two_letters(choose((DO, B), (DO, UNDO))), ("rear", "main", (0,)), ("front", "main", (1,)))
        self.is_not_let(two_letters(choose((B, DO), (UNDO, DO))), ("front", "main", (0,)))
        for other in (loop(DO), DO, ("ensure", (DO,), (DO,)), RETURN, ("call", "main")):
            self.is_not_let(main_only(other), ("front", "main", (0,)), ("rear", "main", (0,)))

    def test_bounds(self):
        full = choose((DO,), (DO,))
        for ahead in (58, 59):
            program = main_only(*((UNDO,) * ahead), full)
            self.assertTrue(is_program(program))
            for word, behind in (("front", (DO, choose((), ()))), ("rear", (choose((), ()), DO))):
                if ahead == 58:
                    self.is_let(program, (word, "main", (ahead,)), *((UNDO,) * ahead), *behind)
                else:
                    self.is_not_let(program, (word, "main", (ahead,)))

    def test_no_place_is_counted(self):
        great = (("a",), (("main", (choose((DO,), (DO,)),)), ("p", GREAT[1][0][1])))
        for word, behind in (("front", (DO, choose((), ()))), ("rear", (choose((), ()), DO))):
            self.is_let(great, (word, "main", (0,)), *behind)


class Unrolls(Stepping):
    def test_let(self):
        self.is_let(main_only(DO, loop(UNDO, RETURN), DO), ("unroll", "main", (1,)), DO,
                    choose((UNDO, RETURN, loop(UNDO, RETURN)), ()), DO)
        self.is_let(main_only(loop()), ("unroll", "main", (0,)), choose((loop(),), ()))
        self.is_let(main_only(loop(loop(DO))), ("unroll", "main", (0, 0, 0)), loop(choose((DO, loop(DO)), ())))

    def test_not_let(self):
        for other in (choose((), ()), DO, ("ensure", (), ()), RETURN, ("call", "main")):
            self.is_not_let(main_only(other), ("unroll", "main", (0,)))

    def test_bounds(self):
        for depth in (11, 12):
            program = main_only(chain(depth))
            self.assertTrue(is_program(program))
            step = ("unroll", "main", (0,))
            if depth == 11:
                self.is_let(program, step, choose((chain(10), chain(11)), ()))
            else:
                self.is_not_let(program, step)
        for many in (59, 60):
            program = main_only(loop(*((DO,) * many)))
            if many == 59:
                self.is_let(program, ("unroll", "main", (0,)), choose(((*((DO,) * 59), loop(*((DO,) * 59)))), ()))
            else:
                self.is_not_let(program, ("unroll", "main", (0,)))
        # Two hundred statements: the loop's fifty come twice, and a choose.
        for more in (49, 50):
            program = main_only(loop(*((DO,) * 50)), loop(*((DO,) * 48)), *((DO,) * more))
            if more == 49:
                self.is_let(program, ("unroll", "main", (0,)), choose(((*((DO,) * 50), loop(*((DO,) * 50)))), ()),
                            loop(*((DO,) * 48)), *((DO,) * more))
            else:
                self.is_not_let(program, ("unroll", "main", (0,)))

    def test_no_place_is_counted(self):
        great = (("a",), (("main", (loop(DO),)), ("p", GREAT[1][0][1])))
        self.is_let(great, ("unroll", "main", (0,)), choose((DO, loop(DO)), ()))
        # What comes has more than 300 places.
        program = main_only(("ensure", (RETURN,) * 10, (loop(*((DO,) * 26)),)))
        other = stepped(program, ("unroll", "main", (0, 1, 0)))
        with self.assertRaises(TooGreat):
            residue(other, "main")


class Inlines(Stepping):
    def test_let(self):
        more = (("p", (B, loop(DO))), ("q", ()))
        self.is_let(two_letters(DO, ("call", "p"), UNDO, more=more), ("inline", "main", (1,)), DO, B, loop(DO), UNDO)
        self.is_let(two_letters(DO, ("call", "q"), UNDO, more=more), ("inline", "main", (1,)), DO, UNDO)
        self.is_let(main_only(DO, ("call", "main")), ("inline", "main", (1,)), DO, DO, ("call", "main"))
        self.is_let(main_only(choose((("call", "main"),), ())), ("inline", "main", (0, 0, 0)),
                    choose((choose((("call", "main"),), ()),), ()))
        self.is_let(two_letters(("ensure", (RETURN,), (("call", "p"),)), more=more), ("inline", "main", (0, 1, 0)),
                    ("ensure", (RETURN,), more[0][1]))
        self.is_let(main_only(("call", "main")), ("inline", "main", (0,)), ("call", "main"))

    def test_returns_at_any_depth(self):
        for body in ((RETURN,), (DO, RETURN), (choose((), (loop(RETURN),)),), (("ensure", (RETURN,), ()),),
                     (("ensure", (), ()), loop(("ensure", (DO, RETURN), ())))):
            self.is_not_let(two_letters(("call", "p"), more=(("p", body),)), ("inline", "main", (0,)))
        # A return of a procedure that is called stays there.
        more = (("p", (("call", "q"),)), ("q", (RETURN,)))
        self.is_let(two_letters(("call", "p"), more=more), ("inline", "main", (0,)), ("call", "q"))

    def test_not_let(self):
        for other in (choose((), ()), DO, ("ensure", (), ()), loop(("call", "main"))):
            self.is_not_let(main_only(other), ("inline", "main", (0,)))

    def test_bounds(self):
        for many in (30, 31, 32):
            program = (("a",), (("main", (*((DO,) * 29), ("call", "p"))), ("p", (DO,) * many)))
            if many <= 31:
                self.is_let(program, ("inline", "main", (29,)), *((DO,) * (29 + many)))
            else:
                self.is_not_let(program, ("inline", "main", (29,)))
        # Depth: a chain of ten below a call that is third, or second, of its own.
        for depth in (10, 11):
            program = (("a",), (("main", (loop(loop(("call", "p"))),)), ("p", (chain(depth),))))
            if depth == 10:
                self.is_let(program, ("inline", "main", (0, 0, 0, 0, 0)), loop(loop(chain(depth))))
            else:
                self.is_not_let(program, ("inline", "main", (0, 0, 0, 0, 0)))

    def test_no_place_is_counted(self):
        great = (("a",), (("main", (("call", "q"),)), ("p", GREAT[1][0][1]), ("q", (DO,))))
        self.is_let(great, ("inline", "main", (0,)), DO)


class Prunes(Stepping):
    def prune(self, path, which):
        """A step on main."""
        return ("prune", "main", path, which)

    def test_bodies_that_cannot_end(self):
        more = (("never", (DO, NEVER)),)
        program = two_letters(choose((DO,), (NEVER,), (B, NEVER), ()), more=more)
        self.is_let(program, self.prune((0,), 1), choose((DO,), (B, NEVER), ()))
        self.is_let(program, self.prune((0,), 2), choose((DO,), (NEVER,), ()))
        self.is_not_let(program, self.prune((0,), 0), self.prune((0,), 3), self.prune((0,), 4), self.prune((0,), -1),
                        self.prune((0,), True), self.prune((0,), None), self.prune((0,), "1"))
        # Before a loop that is never left, or a return, a body may be passed.
        self.is_not_let(two_letters(choose((), (), (loop(NEVER),)), more=more), self.prune((0,), 2))
        self.is_not_let(two_letters(choose((), (), (RETURN, NEVER)), more=more), self.prune((0,), 2))
        self.is_let(two_letters(choose((), (RETURN,), (DO, RETURN, DO)), NEVER, more=more), self.prune((0,), 0),
                    choose((RETURN,), (DO, RETURN, DO)), NEVER)

    def test_chooses_that_are_never_come_to(self):
        program = main_only(RETURN, choose((DO,), (), (UNDO,)))
        for which in range(3):
            bodies = [((DO,), (), (UNDO,))[at] for at in range(3) if at != which]
            self.is_let(program, self.prune((1,), which), RETURN, choose(*bodies))
        program = two_letters(NEVER, choose((DO,), (), (UNDO,)), more=(("never", (NEVER,)),))
        self.is_let(program, self.prune((1,), 0), NEVER, choose((), (UNDO,)))
        program = two_letters(choose((DO,), (), (UNDO,)), NEVER, more=(("never", (NEVER,)),))
        self.is_let(program, self.prune((0,), 1), choose((DO,), (UNDO,)), NEVER)

    def test_two_bodies_do_not_fall_away(self):
        program = two_letters(choose((NEVER,), ()), choose((NEVER,), (NEVER,), ()), more=(("never", (NEVER,)),))
        self.is_not_let(program, self.prune((0,), 0), self.prune((0,), 1))
        self.is_let(program, self.prune((1,), 0), program[1][0][1][0], choose((NEVER,), ()))

    def test_second_bodies_are_laid_for_each_return(self):
        # Only the return's own second body is done, or only the one behind the body's end.
        inner = choose((DO,), (NEVER,), (UNDO,))
        more = (("never", (NEVER,)),)
        for body in ((RETURN,), (), (choose((RETURN,), ()),), (NEVER, RETURN)):
            program = two_letters(("ensure", body, (inner,)), more=more)
            self.is_let(program, self.prune((0, 1, 0), 1), ("ensure", body, (choose((DO,), (UNDO,)),)))
            if body != (NEVER, RETURN):
                self.is_not_let(program, self.prune((0, 1, 0), 0), self.prune((0, 1, 0), 2))
            else:
                self.is_let(program, self.prune((0, 1, 0), 0), ("ensure", body, (choose((NEVER,), (UNDO,)),)))
        # The return is never come to, but the second body is passed by the body's end.
        program = two_letters(("ensure", (choose((NEVER, RETURN), ()),), (inner,)), more=more)
        self.is_not_let(program, self.prune((0, 1, 0), 0), self.prune((0, 1, 0), 2))
        self.assertNotEqual(stepped(program, self.prune((0, 1, 0), 1)), program)
        # A nested one: the outer second body is passed by its return.
        outer = ("ensure", (("ensure", (RETURN,), (inner,)), DO), (inner,))
        program = two_letters(outer, more=more)
        for path in ((0, 0, 0, 1, 0), (0, 1, 0)):
            self.is_not_let(program, self.prune(path, 0), self.prune(path, 2))
            self.assertNotEqual(stepped(program, self.prune(path, 1)), program)

    def test_only_runs_of_the_procedure_itself_count(self):
        # p is called by nobody who ends; but it ends by itself.
        more = (("p", (choose((DO,), (), (UNDO,)),)), ("never", (NEVER,)))
        program = two_letters(("call", "p"), NEVER, more=more)
        for which in range(3):
            self.is_not_let(program, ("prune", "p", (0,), which))
        # Recursion: what is passed in a called run of its own.
        program = main_only(choose((DO, ("call", "main"), RETURN), (), (("call", "main"), ("call", "main"))))
        for which in range(3):
            self.is_not_let(program, self.prune((0,), which))

    def test_bodies_that_begin_at_one_place(self):
        program = main_only(choose((), (), (DO,)), choose((), (), ()))
        self.is_not_let(program, *[self.prune((at,), which) for at in range(2) for which in range(3)])

    def test_other_statements(self):
        for other in (DO, loop(), ("ensure", (), ()), RETURN, ("call", "main")):
            self.is_not_let(main_only(other, RETURN), self.prune((0,), 0), self.prune((1,), 0), self.prune((2,), 0))
        program = main_only(RETURN, choose((), (), ()))
        self.is_not_let(program, ("prune", "main", (1,)), ("prune", "main", (1,), 0, 0), ("prune", "main", (), 0),
                        ("prune", "p", (1,), 0), ["prune", "main", (1,), 0])

    def test_too_great(self):
        fit = (*with_places(299)[1][0][1], RETURN)
        program = (("a",), (("main", (RETURN, choose((), (), ()))), ("p", fit)))
        self.is_let(program, self.prune((1,), 0), RETURN, choose((), ()))
        great = (("a",), (("main", (RETURN, choose((), (), ()))), ("p", GREAT[1][0][1])))
        self.is_too_great(great, self.prune((1,), 0))
        # What does not fit is not let, however many places there are.
        self.is_not_let(great, self.prune((0,), 0), self.prune((1,), 3), ("prune", "q", (1,), 0))


class Stills(Stepping):
    def test_let(self):
        for body in ((), (DO, UNDO), (choose((DO, UNDO), ()),), (NEVER,), (DO, NEVER, UNDO), (choose((NEVER, DO), ()),),
                     (loop(DO, UNDO),), (("call", "p"), ("call", "q")), (("ensure", (DO,), (UNDO,)),)):
            program = two_letters(DO, loop(*body), B, more=(("never", (NEVER,)), ("p", (DO, B, RETURN, DO)), (
                "q", (UNDO_B, choose((UNDO,), (B, UNDO_B, UNDO))))))
            self.is_let(program, ("still", "main", (1,)), DO, B)

    def test_not_let(self):
        for body in ((DO,), (DO, UNDO, DO), (choose((DO,), ()),), (loop(DO),), (("call", "p"),), (RETURN,),
                     (DO, UNDO, RETURN),
                     (choose((RETURN,), ()),), (loop(loop(RETURN)),), (("ensure", (RETURN,), ()),), (UNDO, B),
                     (choose((NEVER,), (DO,)),), (NEVER, RETURN)):
            program = two_letters(loop(*body), more=(("never", (NEVER,)), ("p", (choose((DO,), (DO, B)), UNDO))))
            self.is_not_let(program, ("still", "main", (0,)))
        for other in (choose((), ()), DO, ("ensure", (), ()), RETURN, ("call", "main")):
            self.is_not_let(main_only(other), ("still", "main", (0,)))

    def test_eight_procedures_are_no_hindrance(self):
        names = ("main", "p", "q", "r", "s", "t", "u", "v")
        program = (("a",), tuple((name, (loop(("call", after)),)) for name, after in zip(names, (*names[1:], "main"))))
        self.is_let(program, ("still", "main", (0,)))
        # Neither are the chain of twelve nor the two hundred statements.
        program = main_only(chain(12, loop()))
        self.is_let(program, ("still", "main", (0,)))
        program = main_only(loop(*((DO, UNDO) * 30)), loop(*((DO, UNDO) * 30)), *((DO, UNDO) * 20),
                            loop(*((DO, UNDO) * 18)))
        self.is_let(program, ("still", "main", (0,)), *program[1][0][1][1:])

    def test_the_loop_calls_its_own_procedure(self):
        self.is_let(main_only(loop(("call", "main"))), ("still", "main", (0,)))
        self.is_let(main_only(loop(DO, ("call", "main"), UNDO)), ("still", "main", (0,)))
        self.is_not_let(main_only(loop(("call", "main"), DO)), ("still", "main", (0,)))

    def test_great_words(self):
        names = ("p", "q", "r", "s")
        bodies = ((("call", "q"),) * 20, (("call", "r"),) * 20, (("call", "s"),) * 20, (DO, B))
        undone = ((("call", "y"),) * 20, (("call", "z"),) * 20, (("call", "w"),) * 20)
        for last in (UNDO_B, UNDO), (UNDO, UNDO_B):
            procedures = (("main", (loop(("call", "p"), ("call", "x")),)),
                          *zip(names[:3], (bodies[0], bodies[1], bodies[3])),
                          *zip("xyz", (undone[0], undone[1], last)))
            program = (("a", "b"), procedures)
            step = ("still", "main", (0,))
            if last[0] == UNDO_B:
                self.is_let(program, step)
            else:
                self.is_not_let(program, step)

    def test_too_great(self):
        great = (("a",), (("main", (loop(),)), ("p", GREAT[1][0][1])))
        self.is_too_great(great, ("still", "main", (0,)))
        self.is_not_let(great, ("still", "p", (0,)), ("still", "main", (1,)), ("still", "q", (0,)))
        fit = (("a",), (("main", (loop(),)), ("p", with_places(300)[1][0][1])))
        self.is_let(fit, ("still", "main", (0,)))


class Exchanges(Stepping):
    def test_same_words(self):
        program = main_only(DO)
        for body in ((DO,), (DO, DO, UNDO), (choose((DO,), (UNDO, DO, DO)),), (DO, loop()), (DO, RETURN, UNDO)):
            self.is_let(program, ("exchange", "main", body), *body)
        for body in ((), (UNDO,), (DO, DO), (choose((DO,), ()),), (("call", "main"),), (loop(DO),), (RETURN, DO)):
            self.is_not_let(program, ("exchange", "main", body))

    def test_procedures_that_leave_several_or_none(self):
        for body in ((choose((DO,), ()),), (("call", "main"),), (loop(DO),)):
            self.is_not_let(main_only(*body), ("exchange", "main", body), ("exchange", "main", ()),
                            ("exchange", "main", (DO,)))

    def test_other_procedures_keep_theirs(self):
        more = (("p", (("call", "main"), B)), ("q", (loop(("call", "p")),)))
        program = two_letters(DO, more=more)
        self.is_let(program, ("exchange", "main", (DO, B, UNDO_B)), DO, B, UNDO_B)
        # main still leaves one word, but p comes to nothing, or p leaves another one.
        program = two_letters(choose((DO,), (DO, NEVER)), more=(("never", (NEVER,)), ("r", (DO, B))))
        self.is_let(program, ("exchange", "main", (DO,)), DO)
        body = (choose((B,), (B, ("call", "r"), ("call", "s"))),)
        more = (("r", body), ("s", (NEVER,)), ("never", (NEVER,)))
        other = stepped(two_letters(more=more), ("exchange", "r", (B,)))
        self.assertEqual(dict(other[1])["r"], (B,))
        # What cannot end may leave something behind.
        program = two_letters(choose((), (("call", "p"),)), more=(("p", (("call", "p"),)),))
        self.is_let(program, ("exchange", "main", ()))

    def test_one_word_ahead_for_each(self):
        # q calls main, and ends only because main does: each ends behind, too, with the same word.
        more = (("q", (("call", "main"), ("call", "main"))),)
        program = two_letters(DO, more=more)
        self.is_let(program, ("exchange", "main", (choose((DO,), (B, DO, UNDO, UNDO_B, DO)),)),
                    choose((DO,), (B, DO, UNDO, UNDO_B, DO)))
        self.is_not_let(program, ("exchange", "main", (choose((DO,), (("call", "q"),)),)),
                        ("exchange", "q", (DO, ("call", "main"), ("call", "q"))), ("exchange", "q", (DO,)))
        self.assertEqual(stepped(program, ("exchange", "q", (DO, DO)))[1][1], ("q", (DO, DO)))

    def test_what_comes_must_be_a_checked_program(self):
        program = main_only(DO)
        for body in (*STRANGE, *NESTED):
            if body != ():
                self.is_not_let(program, ("exchange", "main", body))
        for body in ((("do", "b"),), (("call", "p"),), (("ensure", (DO,), (RETURN,)),), [DO], (list(DO),), (DO,) * 61,
                     (("do", "A"),), (chain(13, DO), DO), (choose((DO,)),), DO):
            self.is_not_let(program, ("exchange", "main", body))
        for many in (59, 61):
            body = (DO,) * ((many + 1) // 2) + (UNDO,) * ((many - 1) // 2)
            (self.is_let if many == 59 else self.is_not_let)(program, ("exchange", "main", body),
                                                             *(body * (many == 59)))
        many = (DO, UNDO) * 30
        program = (("a",), (("main", (DO,)), ("p", many), ("q", many), ("r", (DO, UNDO) * 9)))
        for pairs in (30, 31):
            body = (loop(*((DO, UNDO) * 19)), DO, *((DO, UNDO) * (pairs - 20)), *((loop(),) * 1))
            self.assertLessEqual(len(body), 60)
            total = sum(len(one) for _, one in program[1][1:]) + len(body) + 38
            step = ("exchange", "main", body)
            (self.is_let if total <= 200 else self.is_not_let)(program, step, *(body * (total <= 200)))
            self.assertEqual(total <= 200, pairs == 30)

    def test_too_great(self):
        great = (("a",), (("main", (DO,)), ("p", GREAT[1][0][1])))
        self.is_too_great(great, ("exchange", "main", (DO,)))
        self.is_too_great(main_only(DO), ("exchange", "main", (*GREAT[1][0][1], DO)))
        self.is_not_let(great, ("exchange", "main", None), ("exchange", "q", (DO,)))


class Objects(Stepping):
    def test_any_object_is_no_step(self):
        program = main_only(DO, UNDO, choose((), ()), loop())
        steps = [("cancel", "main", (0,)), ("unroll", "main", (3,)), ("still", "main", (3,)), ("exchange", "main", ())]
        for step in steps:
            stepped(program, step)
            self.is_not_let(program, step[:2], step[:1], (*step, 0), *as_lists(step[:2]), list(step), ("x" + step[0],
                            *step[1:]), (step,))
            for part in (None, True, False, "a", -1, 7, [], 10 ** 30):
                for other in replaced(step, part):
                    if other != step:
                        self.is_not_let(program, other)
        for thing in (*STRANGE, *NESTED):
            self.is_not_let(program, thing)
        for word in ("", "Cancel", "prune", "do", "loop", None, 0, ("cancel",)):
            self.is_not_let(program, (word, "main", (0,)))

    def test_errors_in_sequence(self):
        for rest in ((None,), (("cancel", "main", (0,)),)):
            check_program_errors(self, stepped, *rest)
        for rest in ((None,), ((),), ((None,),)):
            check_program_errors(self, replayed, *rest)
        check_program_errors(self, tidied)
        self.assertGreater(len(NOT_CHECKED), 3)

    def test_names_of_parameters(self):
        program = main_only(DO, UNDO)
        check_names_of_parameters(self, stepped, program=program, step=("cancel", "main", (0,)))
        check_names_of_parameters(self, replayed, program=program, log=(("cancel", "main", (0,)),))
        check_names_of_parameters(self, tidied, program=program)


class Logs(unittest.TestCase):
    def test_numbers_of_steps(self):
        program = main_only(DO, UNDO)
        self.assertEqual(replayed(program, ()), program)
        step = ("exchange", "main", ())
        for many in (1, 2, 59, 60):
            self.assertEqual(replayed(program, (step,) * many), main_only())
        for log in ((step,) * 61, (None,) * 61, [step], [], None, step[0], 0, True, {}, {"a": 1}):
            with self.assertRaises(BadLog):
                replayed(program, log)

    def test_the_first_that_is_not_let(self):
        program = main_only(DO, UNDO, DO, UNDO, DO)
        step = ("cancel", "main", (0,))
        for log, index in (((step, step, step), 2), ((None,), 0), ((step, None, step), 1), ((step, step, ()), 2),
                           ((("cancel", "main", (3,)), ("cancel", "main", (3,)), None), 1), ((step, [step]), 1),
                           ((None,) * 60, 0), ((step, step, *((None,) * 58)), 2), (("cancel", "main", (0,)), 0)):
            with self.assertRaises(NotLet) as caught:
                replayed(program, log)
            self.assertEqual(caught.exception.index, index)

    def test_too_great_in_sequence(self):
        great = (("a",), (("main", (DO, UNDO, loop())), ("p", GREAT[1][0][1])))
        cancel, still = ("cancel", "main", (0,)), ("still", "main", (0,))
        self.assertEqual(replayed(great, (cancel,))[1][0], ("main", (loop(),)))
        for log in ((cancel, still), (cancel, still, None), (cancel, still, cancel)):
            with self.assertRaises(TooGreat):
                replayed(great, log)
        for log, index in (((cancel, None, still), 1), ((cancel, cancel, still), 1)):
            with self.assertRaises(NotLet) as caught:
                replayed(great, log)
            self.assertEqual(caught.exception.index, index)


class Kept(unittest.TestCase):
    def left(self, program):
        """What each procedure leaves."""
        found = []
        for name, _ in program[1]:
            told = residue(program, name)
            found.append((told[0], words_of(told[1])[-1] if told[0] == "one" else None))
        return found

    def words(self, program, name, most):
        """The nets of the runs of a procedure that pass at most so many places."""
        return {net_word(word) for word, _ in runs_by_text(program, name, most)}

    def all_steps(self, program):
        """Steps on each statement."""
        for name, body in program[1]:
            for path, _ in paths(body):
                for word in KINDS[:5]:
                    yield (word, name, path)
                yield ("still", name, path)
                for which in range(4):
                    yield ("prune", name, path, which)

    def check(self, program, seen):
        """All steps that are let keep what is left."""
        left = self.left(program)
        for step in self.all_steps(program):
            try:
                other = stepped(program, step)
            except NotLet:
                continue
            seen[step[0]] = seen.get(step[0], 0) + 1
            self.assertTrue(is_program(other) and check(other) is None)
            self.assertEqual(self.left(other), left, (program, step))
            for name, (kind, _) in zip(dict(program[1]), left):
                if kind == "two":
                    try:
                        self.assertLessEqual(self.words(program, name, 9), self.words(other, name, 20))
                        self.assertLessEqual(self.words(other, name, 9), self.words(program, name, 20))
                    except TooMany:
                        continue

    def test_by_chance(self):
        seen = {}
        for program, _ in (*programs_by_chance(71, 130), *keeping_programs(72, 40)):
            self.check(program, seen)
        for word in ("cancel", "unroll", "inline", "still", "prune"):
            self.assertGreater(seen[word], 10, word)
        self.assertGreater(min(seen["front"], seen["rear"]), 2)


class Tidied(unittest.TestCase):
    def check(self, program):
        """The log leads to the other program, on which nothing more is let if there are few steps; return both."""
        other, log = tidied(program)
        self.assertIsInstance(log, tuple)
        self.assertLessEqual(len(log), 60)
        self.assertEqual(replayed(program, log), other)
        for step in log:
            self.assertIn(step[0], ("cancel", "front", "rear", "prune", "still"))
        if len(log) < 60:
            for step in Kept().all_steps(other):
                if step[0] not in ("unroll", "inline"):
                    with self.assertRaises(NotLet):
                        stepped(other, step)
        return other, log

    def test_nothing_to_do(self):
        for program in (main_only(), main_only(DO, DO), main_only(loop(DO)), two_letters(choose((DO,), (B,), ()))):
            self.assertEqual(tidied(program), (program, ()))

    def test_one_after_another(self):
        program = two_letters(DO, B, choose((UNDO_B,), (UNDO_B,)), choose((UNDO,), (UNDO,)), loop(B, UNDO_B),
                              loop(NEVER),
                              more=(("never", (NEVER,)),))
        other, _ = self.check(program)
        self.assertEqual([statement for statement in other[1][0][1] if statement[0] == "loop"], [])
        self.assertEqual([statement for statement in other[1][0][1] if statement[0] == "choose"], [choose((), ())] * 2)
        self.assertEqual(residue(other, "main")[:2], residue(program, "main")[:2])

    def test_deep_cancels(self):
        self.assertEqual(self.check(main_only(*((DO,) * 30), *((UNDO,) * 30)))[0], main_only())
        self.assertEqual(len(self.check(main_only(*((DO,) * 30), *((UNDO,) * 30)))[1]), 30)

    def test_sixty_steps_at_most(self):
        program = (("a",), tuple((name, (DO, UNDO) * 25) for name in ("main", "p", "q")))
        other, log = self.check(program)
        self.assertEqual(len(log), 60)
        self.assertEqual(sum(len(body) for _, body in other[1]), 30)
        program = (("a",), (("main", (DO, UNDO) * 30), ("p", (DO, UNDO) * 29)))
        other, log = self.check(program)
        self.assertEqual((len(log), other[1]), (59, (("main", ()), ("p", ()))))
        program = (("a",), tuple((name, (loop(NEVER),) * 30) for name in ("main", "p", "q")) + (("never", (NEVER,)),))
        self.assertEqual(len(self.check(program)[1]), 60)

    def test_prunes(self):
        more = (("never", (NEVER,)),)
        other, log = self.check(two_letters(choose((NEVER,), (NEVER, B), (DO,), (NEVER, UNDO), (B,)), more=more))
        self.assertEqual(other[1][0], ("main", (choose((DO,), (B,)),)))
        other, log = self.check(two_letters(choose((NEVER, B), (NEVER, DO), (NEVER, UNDO, B)), RETURN, more=more))
        self.assertEqual([len(statement[1]) for statement in other[1][0][1] if statement[0] == "choose"], [2])

    def test_full_bodies_hold_steps_back(self):
        program = main_only(*((DO,) * 59), choose((UNDO,), (UNDO,)))
        self.assertEqual(tidied(program), (program, ()))

    def test_too_great(self):
        great = (("a",), (("main", (DO, UNDO)), ("p", GREAT[1][0][1])))
        try:
            self.assertEqual(tidied(great)[0][1][0], ("main", ()))
        except TooGreat:
            pass
        fit = (("a",), (("main", (loop(DO, UNDO),)), ("p", with_places(300)[1][0][1])))
        self.assertEqual(self.check(fit)[0][1][0], ("main", ()))

    def test_by_chance(self):
        most = 0
        for program, _ in (*programs_by_chance(73, 150), *keeping_programs(74, 60)):
            other, log = self.check(program)
            most = max(most, len(log))
            self.assertEqual(Kept().left(other), Kept().left(program))
        self.assertGreater(most, 15)


if __name__ == "__main__":
    unittest.main()
