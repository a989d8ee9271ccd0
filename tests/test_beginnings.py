"""Promise [20]: beginnings of runs, what stands behind them, and which go wrong."""

import random
import unittest

from undoneall.errors import BadBeginning, TooGreat
from undoneall.places import places
from undoneall.programs import read_program
from undoneall.residues import residue
from undoneall.runs import least_run
from undoneall.shrinking import repeated, written
from undoneall.standing import is_beginning, is_endless, is_wrong, stands
from undoneall.straight import spelled
from tests.faults import GREAT, check_name_errors, check_names_of_parameters
from tests.keeping_programs import keeping_programs
from tests.plain import net_word
from tests.plain_runs import programs_by_chance
from tests.plain_standing import followed, goes_wrong
from tests.samples import DO, NESTED, STRANGE, UNDO, as_lists, main_only, replaced

LOCKS = read_program("letters lock open ; proc main { do lock ; choose { call main ; } or { } undo lock ; }")
# main: 0 end, 1 call q, 2 letter b, 3 call p, 4 fork (2, 3), 5 letter a; p: do a, undo b; q never ends.
TWO = read_program("letters a b ; proc main { do a ; choose { do b ; } or { call p ; } call q ; } "
                   "proc p { do a ; undo b ; } proc q { do b ; call q ; }")
P_ROWS = ((1, 0, 0, ()), (1, 1, 0, (0,)), (1, 2, 0, (1,)))
COUNTING = main_only(("loop", (("choose", ((DO,), (UNDO,))),)))
CALLS = main_only(DO, ("call", "main"))
PADDING = (0, 0, 0, ())


class Forms(unittest.TestCase):
    def judge(self, program, thing, word, name="main", wrong=False):
        """thing is a beginning behind which this stands; None: it is none."""
        self.assertIs(is_beginning(program, name, thing), word is not None)
        self.assertIs(is_wrong(program, name, thing), wrong)
        if word is not None:
            self.assertEqual(stands(program, name, thing), written(word))
        else:
            with self.assertRaises(BadBeginning):
                stands(program, name, thing)

    def test_no_moves(self):
        for program in (LOCKS, TWO, CALLS, main_only(), main_only(("call", "main"))):
            self.judge(program, ((), ((),)), ())

    def test_letters_and_forks(self):
        self.judge(TWO, ((), ((0,),)), (1,))
        self.judge(TWO, ((), ((0, 0),)), (1,))
        self.judge(TWO, ((), ((0, 1),)), (1,))
        self.judge(TWO, ((), ((0, 0, 0),)), (1, 2))
        for leg in ((1,), (-1,), (0, 2), (0, -1), (0, 0, 1), (0, 0, 0, 0), (True,), (False,), (0, False), (0, True),
                    (None,), ("0",), ((0,),), (0, 0, None)):
            self.judge(TWO, ((), (leg,)), None)

    def test_nothing_is_moved_at_an_end(self):
        self.judge(main_only(DO), ((), ((0,),)), (1,))
        for move in (0, 1, -1):
            self.judge(main_only(DO), ((), ((0, move),)), None)
            self.judge(main_only(), ((), ((move,),)), None)
            self.judge(main_only(DO), ((PADDING,), ((0, move),)), None)

    def test_legs_go_on_within_calls(self):
        self.judge(TWO, ((), ((0, 1), ())), (1,))
        self.judge(TWO, ((), ((0, 1), (0,))), (1, 1))
        self.judge(TWO, ((), ((0, 1), (0, 0))), (1, 1, -2), wrong=True)
        self.judge(TWO, ((), ((0, 0, 0), ())), (1, 2))
        self.judge(TWO, ((), ((0, 0, 0), (0,), (0,), ())), (1, 2, 2, 2))
        self.judge(TWO, ((), ((0,), ())), None)
        self.judge(TWO, ((), ((0, 0), ())), None)
        self.judge(TWO, ((), ((0, 1), (0,), ())), None)
        self.judge(TWO, ((), ((), (0, 1))), None)
        self.judge(TWO, ((), ((0, 1), (0, 0), ())), None)
        self.judge(main_only(), ((), ((), ())), None)
        self.judge(main_only(("call", "main")), ((), ((), (), ())), ())

    def test_calls_that_are_passed(self):
        self.judge(TWO, (P_ROWS, ((0, 1, 2),)), (1, 1, -2))
        self.judge(TWO, (P_ROWS, ((0, 1, 2), ())), (1, 1, -2))
        self.judge(TWO, (P_ROWS, ((0, 1, 2), (0,))), (1, 1))
        for move in (0, 1, 3, -1, True, None):
            self.judge(TWO, (P_ROWS, ((0, 1, move),)), None)
        self.judge(TWO, ((), ((0, 1, 0),)), None)
        # What cannot end is not passed.
        self.judge(TWO, (P_ROWS, ((0, 0, 0, 2),)), None)

    def test_other_runs_are_those_of_the_very_row(self):
        program = read_program("letters a b ; proc main { call p ; call p ; } proc p { choose { do a ; } or { do b ; "
                               "} }")
        rows = ((1, 0, 0, ()), (1, 1, 0, (0,)), (1, 2, 0, (0,)), (1, 3, 0, (1,)), (1, 3, 1, (2,)), PADDING)
        for one, first in ((3, 1), (4, 2)):
            self.judge(program, (rows, ((one,),)), (first,))
            for other, second in ((3, 1), (4, 2)):
                self.judge(program, (rows, ((one, other),)), (first, second))
            for other in (0, 1, 2, 5):
                self.judge(program, (rows, ((one, other),)), None)
                self.judge(program, (rows, ((other,),)), None)

    def test_every_row_must_be_right(self):
        self.judge(TWO, (P_ROWS, ((),)), ())
        self.judge(TWO, (P_ROWS[:2], ((0, 1),)), (1,))
        self.judge(TWO, ((*P_ROWS, (2, 0, 0, ())), ((0, 1, 2),)), (1, 1, -2))
        for bad in ((1, 0, 1, ()), (1, 0, 0, (0,)), (2, 1, 0, (0, 0)), (3, 0, 0, ()), [1, 0, 0, ()], (1, 2, 0, (2,))):
            self.judge(TWO, ((*P_ROWS, bad), ((0, 1, 2),)), None)
            self.judge(TWO, ((*P_ROWS, bad), ((),)), None)
        self.judge(TWO, (list(P_ROWS), ((),)), None)
        self.judge(TWO, ([], ((),)), None)

    def test_pairs_of_tuples(self):
        for thing in (((),), ((), ((),), ()), [(), ((),)], ((), [()]), ((), ([],)), ((), ()), ((), ((), [])),
                      ((), None),
                      ((), 0), (None, ((),)), (0, ((),)), ((), ((0, [])),)):
            self.judge(TWO, thing, None)

    def test_other_procedures(self):
        self.judge(TWO, ((), ((0,),)), (1,), "p")
        self.judge(TWO, ((), ((0,),)), (2,), "q")
        self.judge(TWO, ((), ((0,), (0,), (0,))), (2, 2, 2), "q")
        self.judge(TWO, ((), ((0, 0),)), (1, -2), "p", True)
        self.judge(TWO, ((), ((0, 0),)), None, "q")


class Bounds(unittest.TestCase):
    def test_rows(self):
        for many in (1, 4999, 5000, 5001):
            self.assertIs(is_beginning(LOCKS, "main", ((PADDING,) * many, ((0,),))), many <= 5000)
        with self.assertRaises(BadBeginning):
            stands(LOCKS, "main", ((PADDING,) * 5001, ((0,),)))

    def test_legs(self):
        for many in (9999, 10000, 10001):
            for legs in (((0,),) * many, ((0,),) * (many - 1) + ((),)):
                self.assertIs(is_beginning(CALLS, "main", ((), legs)), many <= 10000)
        self.assertEqual(stands(CALLS, "main", ((), ((0,),) * 10000)), repeated(written((1,)), 10000))
        self.assertIs(is_beginning(main_only(("call", "main")), "main", ((), ((),) * 10000)), True)
        self.assertIs(is_beginning(main_only(("call", "main")), "main", ((), ((),) * 10001)), False)
        with self.assertRaises(BadBeginning):
            stands(CALLS, "main", ((), ((0,),) * 10001))

    def test_moves(self):
        one_leg = (0, 0, 0) * 33334
        for many in (99999, 100000, 100001):
            self.assertIs(is_beginning(COUNTING, "main", ((), (one_leg[:many],))), many <= 100000)
        self.assertEqual(stands(COUNTING, "main", ((), (one_leg[:100000],))), repeated(written((1,)), 33333))
        with self.assertRaises(BadBeginning):
            stands(COUNTING, "main", ((), (one_leg[:100001],)))
        for thing in ((one_leg[:100001],), one_leg[:100001]):
            self.assertIs(is_wrong(COUNTING, "main", ((), thing)), False)

    def test_moves_of_all_legs_together(self):
        program = main_only(("loop", (("choose", ((DO,), (UNDO,))),)), ("call", "main"))
        leg = (*((0, 0, 0) * 33), 1)
        for last, expected in ((leg, True), ((*leg[:-1], 0), True)):
            legs = (leg,) * 999 + (last,)
            self.assertIs(is_beginning(program, "main", ((), legs)), expected)
        self.assertIs(is_beginning(program, "main", ((), (leg,) * 1000 + ((),))), True)
        self.assertIs(is_beginning(program, "main", ((), (leg,) * 1000 + ((0,),))), False)
        self.assertEqual(stands(program, "main", ((), (leg,) * 1000 + ((),))), repeated(written((1,)), 33000))

    def test_what_stands_is_too_great(self):
        chance = random.Random(8)
        letters = tuple("abcdefgh")
        program = (letters, (("main", (("loop", (("choose", tuple((("do", x),) for x in letters[:6])), ("choose", (
            (("do", "g"),), (("do", "h"),))))),)),))
        leg = tuple(move for _ in range(20000) for move in (0, chance.randrange(6), 0, chance.randrange(2), 0))
        self.assertEqual(len(leg), 100000)
        self.assertIs(is_beginning(program, "main", ((), (leg,))), True)
        self.assertIs(is_wrong(program, "main", ((), (leg,))), False)
        with self.assertRaises(TooGreat):
            stands(program, "main", ((), (leg,)))
        self.assertEqual(len(spelled(stands(program, "main", ((), (leg[:5000],))))), 2000)

    def test_long_words(self):
        names = ("main", "p", "q", "r", "s", "t")
        bodies = tuple((("call", name),) * 30 for name in names[1:]) + ((DO,) * 30,)
        program = (("a",), tuple(zip(names, bodies)))
        rows = least_run(program, "p")
        self.assertEqual(stands(program, "main", (rows, ((len(rows) - 1,) * 30,))), repeated(written((1,)), 30 ** 6))
        last = [at for at, row in enumerate(rows) if row[:2] == (2, 30)][-1]
        self.assertEqual(stands(program, "main", (rows, ((len(rows) - 1,), (last,) * 7))),
                         repeated(written((1,)), 30 ** 5 + 7 * 30 ** 4))

    def test_long_words_that_are_undone(self):
        bodies = ((("call", "p"), ("call", "q"), UNDO), (("call", "r"),) * 20, (("call", "s"),) * 20, (DO, ("do", "b")),
                  (("undo", "b"), UNDO))
        program = (("a", "b"), tuple(zip(("main", "p", "q", "r", "s"), bodies)))
        rows = least_run(program, "main")
        p, q = [next(at for at, row in enumerate(rows) if row[:2] == (k, 20)) for k in (1, 2)]
        self.assertEqual(stands(program, "main", (rows, ((p,),))), repeated(written((1, 2)), 20))
        self.assertEqual(stands(program, "main", (rows, ((p, q),))), (("none",),))
        self.assertIs(is_wrong(program, "main", (rows, ((p, q, 0),))), True)
        self.assertIs(is_wrong(program, "main", (rows, ((p, q),))), False)


class Wrongs(unittest.TestCase):
    def test_undoing_of_another_deed_or_of_none(self):
        program = read_program("letters a b ; proc main { do a ; do b ; undo b ; undo b ; }")
        for many in range(5):
            self.assertIs(is_wrong(program, "main", ((), ((0,) * many,))), many == 4)
        program = read_program("letters a b ; proc main { do a ; undo a ; undo a ; }")
        for many in range(4):
            self.assertIs(is_wrong(program, "main", ((), ((0,) * many,))), many == 3)
        self.assertIs(is_wrong(main_only(UNDO), "main", ((), ((0,),))), True)

    def test_only_the_last_move_goes_wrong(self):
        program = read_program("letters a ; proc main { undo a ; loop { do a ; } undo a ; }")
        self.assertIs(is_wrong(program, "main", ((), ((0,),))), True)
        for leg in ((0, 0), (0, 1), (0, 0, 0), (0, 1, 0), (0, 0, 0, 1, 0), (0, 0, 0, 0, 0, 1, 0)):
            self.assertIs(is_beginning(program, "main", ((), (leg,))), True)
            # What stands is told by the net: done and undone, nothing stands, in whatever order.
            self.assertIs(is_wrong(program, "main", ((), (leg,))), leg == (0, 0, 0, 1, 0))

    def test_the_last_leg_must_have_a_move(self):
        program = main_only(UNDO, ("call", "main"))
        self.assertIs(is_wrong(program, "main", ((), ((0,),))), True)
        self.assertIs(is_wrong(program, "main", ((), ((0,), ()))), False)
        program = main_only(("call", "p"))
        program = (("a",), (*program[1], ("p", (UNDO,))))
        self.assertIs(is_wrong(program, "main", ((), ((), ()))), False)
        self.assertIs(is_wrong(program, "main", ((), ((), (0,)))), True)

    def test_a_call_that_is_passed_is_no_letter_place(self):
        program = (("a",), (("main", (("call", "p"), UNDO)), ("p", (UNDO,))))
        rows = least_run(program, "p")
        self.assertEqual(spelled(stands(program, "main", (rows, ((1,),)))), (-1,))
        self.assertIs(is_wrong(program, "main", (rows, ((1,),))), False)
        self.assertIs(is_wrong(program, "main", (rows, ((1, 0),))), False)
        program = (("a", "b"), (("main", (("call", "p"), UNDO)), ("p", (("do", "b"),))))
        self.assertIs(is_wrong(program, "main", (least_run(program, "p"), ((1, 0),))), True)

    def test_forks_are_no_letter_places(self):
        program = main_only(UNDO, ("loop", ()))
        self.assertIs(is_wrong(program, "main", ((), ((0, 1),))), False)
        self.assertIs(is_wrong(program, "main", ((), ((0,),))), True)

    def test_by_chance(self):
        chance = random.Random(9)
        seen = [0, 0]
        for program, name in (*programs_by_chance(41, 200), *keeping_programs(42, 150)):
            layout = places(program)
            index = [procedure[0] for procedure in program[1]].index(name)
            rows = tuple(row for row in self.all_rows(program))
            for _ in range(6):
                thing = (rows, self.legs_by_chance(chance, layout, index, rows))
                self.assertIs(is_beginning(program, name, thing), True)
                wrong = goes_wrong(layout, index, thing)
                seen[wrong] += 1
                self.assertIs(is_wrong(program, name, thing), wrong)
                _, deeds = followed(layout, index, thing)
                word = net_word(sum((sum(leg, ()) for leg in deeds), ()))
                self.assertEqual(spelled(stands(program, name, thing)), word)
        self.assertGreater(min(seen), 60)

    def all_rows(self, program):
        """The rows of a run or two of each procedure that can end."""
        rows = []
        for name, _ in program[1]:
            told = residue(program, name)
            runs = {"none": (), "one": (least_run(program, name),), "two": told[1:]}[told[0]]
            for found in runs:
                by = len(rows)
                rows.extend((*row[:3], tuple(part + by for part in row[3])) for row in found)
        return rows

    def legs_by_chance(self, chance, layout, index, rows):
        """The legs of a beginning."""
        legs, place = [[]], layout[index][0]
        for _ in range(chance.randrange(14)):
            kind = layout[index][1][place]
            if kind[0] == "end":
                break
            fits = [at for at, row in enumerate(rows) if kind[0] == "call" and row[:2] == (kind[1], layout[kind[1]][0])]
            if kind[0] == "fork":
                legs[-1].append(chance.randrange(len(kind[1])))
                place = kind[1][legs[-1][-1]]
            elif kind[0] == "letter" or (fits and chance.random() < 0.5):
                legs[-1].append(0 if kind[0] == "letter" else chance.choice(fits))
                place = kind[2]
            else:
                legs.append([])
                index = kind[1]
                place = layout[index][0]
        return tuple(tuple(leg) for leg in legs)


class Objects(unittest.TestCase):
    def test_any_object(self):
        thing = (P_ROWS, ((0, 1, 2), (0,)))
        for other in (*STRANGE, *NESTED, *as_lists(thing)):
            for function in (is_beginning, is_wrong, is_endless):
                self.assertIs(function(TWO, "main", other), False)
            with self.assertRaises(BadBeginning):
                stands(TWO, "main", other)
        for part in (None, True, False, "a", -1, 7, [], (0,), 10 ** 30):
            for other in replaced(thing, part):
                if repr(other) != repr(thing) and part != (0,):
                    self.assertIs(is_beginning(TWO, "main", other), False, other)
                    self.assertIs(is_wrong(TWO, "main", other), False)

    def test_errors_in_sequence(self):
        for function in (is_beginning, stands, is_wrong, is_endless):
            check_name_errors(self, function, None)
            check_name_errors(self, function, ((), ((),)))
        with self.assertRaises(TooGreat):
            stands(GREAT, "main", None)

    def test_names_of_parameters(self):
        thing = ((), ((0, 1), (0, 0)))
        for function in (is_beginning, is_wrong):
            self.assertIs(check_names_of_parameters(self, function, program=TWO, name="main", thing=thing), True)
        check_names_of_parameters(self, stands, program=TWO, name="main", beginning=thing)


if __name__ == "__main__":
    unittest.main()
