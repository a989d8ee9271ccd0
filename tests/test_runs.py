"""Promises [9] and [10]: rows of runs, the least run, and the words that short runs leave."""

import unittest

from undoneall.errors import BadLimit, BadName, BadProgram, BadRun, NotChecked, TooGreat
from undoneall.places import places
from undoneall.programs import read_program
from undoneall.runs import is_run, least_run, run_length, run_text, small_words
from undoneall.straight import is_straight, lengths, spelled
from tests.plain import net_word
from tests.plain_runs import TooMany, programs_by_chance, runs_by_places
from tests.samples import DO, NESTED, RETURN, STRANGE, as_lists, main_only, replaced

EXAMPLE = read_program("letters a ; proc main { choose { do a ; call main ; undo a ; } or { } }")
ROWS = ((0, 0, 0, ()), (0, 4, 1, (0,)), (0, 1, 0, (0,)), (0, 2, 0, (1, 2)), (0, 3, 0, (3,)), (0, 4, 0, (4,)))
TWO = read_program("letters a b ; proc main { loop { choose { do a ; } or { call p ; } } } proc p { do b ; call q ; } "
                   "proc q { }")
TWO_ROWS = ((1, 0, 0, ()), (2, 0, 0, ()), (1, 1, 0, (1, 0)), (1, 2, 0, (2,)), (0, 0, 0, ()), (0, 1, 1, (4,)),
            (0, 3, 0, (3, 5)), (0, 4, 1, (6,)), (0, 1, 0, (7,)))
# A run that doubles itself again and again.
DOUBLING = read_program("letters a ; proc main { choose { do a ; } or { call main ; call main ; } }")
LOOPING = read_program("letters a b ; proc main { loop { do a ; undo b ; do a ; } }")
ENDLESS = read_program("letters a ; proc main { call p ; } proc p { do a ; call p ; } proc q { do a ; }")
EMPTY_MAIN = main_only()
END_ROW = (0, 0, 0, ())


def doubling_rows(times):
    """The rows of a run of DOUBLING that leaves 2 ** times letters."""
    rows = [END_ROW, (0, 1, 0, (0,)), (0, 4, 0, (1,))]
    for _ in range(times):
        whole = len(rows) - 1
        rows.extend([(0, 2, 0, (whole, 0)), (0, 3, 0, (whole, len(rows))), (0, 4, 1, (len(rows) + 1,))])
    return tuple(rows)


def looping_rows(times):
    """The rows of a run of LOOPING that does the loop's body so many times."""
    rows = [END_ROW, (0, 1, 1, (0,))]
    for _ in range(times):
        for place in (2, 3, 4):
            rows.append((0, place, 0, (len(rows) - 1,)))
        rows.append((0, 1, 0, (len(rows) - 1,)))
    return tuple(rows)


def padded(rows, many):
    """So many rows with the same last one, those ahead not drawn from."""
    more = many - len(rows)
    return (END_ROW,) * more + tuple((*row[:3], tuple(part + more for part in row[3])) for row in rows)


class Judged(unittest.TestCase):
    def judge(self, program, thing, expected):
        """is_run says so, and the others go by it."""
        self.assertIs(is_run(program, thing), expected)
        self.assertIs(is_run(thing=thing, program=program), expected)
        for function in (run_length, run_text):
            if expected:
                function(program, thing)
                function(rows=thing, program=program)
            else:
                with self.assertRaises(BadRun):
                    function(program, thing)
                with self.assertRaises(BadRun):
                    function(rows=thing, program=program)


class Forms(Judged):
    def test_example(self):
        self.judge(EXAMPLE, ROWS, True)
        self.assertEqual(run_length(EXAMPLE, ROWS), 7)
        self.assertEqual(spelled(run_text(EXAMPLE, ROWS)), (1, -1))
        self.judge(EXAMPLE, ROWS[:2], True)
        for many in (0, 1, 3, 4, 5):
            self.judge(EXAMPLE, ROWS[:many], False)

    def test_several_procedures(self):
        self.assertEqual(places(TWO)[0][1][1:], (("fork", (4, 0)), ("letter", 1, 1), ("call", 1, 1), ("fork", (2, 3))))
        self.judge(TWO, TWO_ROWS, True)
        self.assertEqual(run_length(TWO, TWO_ROWS), 1 + 1 + 1 + (1 + 1 + 1 + 1) + 1 + 1)
        self.assertEqual(spelled(run_text(TWO, TWO_ROWS)), (2,))
        self.judge(TWO, TWO_ROWS[:4], True)
        self.judge(TWO, TWO_ROWS[:3], False)
        self.judge(TWO, TWO_ROWS[:2], True)

    def test_last_row_is_at_the_begin_of_any_procedure(self):
        self.judge(ENDLESS, ((2, 0, 0, ()), (2, 1, 0, (0,))), True)
        self.judge(ENDLESS, ((2, 0, 0, ()),), False)
        self.judge(EMPTY_MAIN, (END_ROW,), True)

    def test_rows_that_are_not_drawn_from(self):
        self.judge(EXAMPLE, (ROWS[0], ROWS[0], (0, 1, 0, (1,)), (0, 4, 1, (0,))), True)
        self.judge(EXAMPLE, (ROWS[0], (0, 3, 0, (0,)), (0, 4, 1, (0,))), False)
        self.judge(EXAMPLE, (ROWS[0], (0, 4, 2, (0,)), (0, 4, 1, (0,))), False)
        self.assertEqual(run_text(EXAMPLE, (ROWS[0], (0, 1, 0, (0,)), (0, 4, 1, (0,)))), (("none",),))
        letters = (END_ROW, (0, 1, 1, (0,)), (0, 2, 0, (1,)), (0, 3, 0, (2,)), (0, 4, 0, (3,)), (0, 2, 0, (1,)),
                   (0, 1, 0, (4,)), (0, 1, 1, (0,)))
        self.judge(LOOPING, letters, True)
        self.assertEqual(spelled(run_text(LOOPING, letters[:-1])), (1, -2, 1))
        self.assertEqual(spelled(run_text(LOOPING, letters)), ())

    def test_how_many_entries(self):
        for row in (END_ROW[:3], (*END_ROW, ()), (*END_ROW, 0), (0, 0, 0), (0, 0), ()):
            self.judge(EMPTY_MAIN, (row,), False)
            self.judge(EMPTY_MAIN, (row, END_ROW), False)

    def test_how_many_rows(self):
        for many, expected in ((1, True), (4999, True), (5000, True), (5001, False), (6000, False)):
            self.judge(EMPTY_MAIN, (END_ROW,) * many, expected)
            if many > 1:
                self.judge(EXAMPLE, padded(ROWS, many), expected)
        self.judge(EMPTY_MAIN, (), False)

    def test_parts_are_earlier_rows_at_the_right_places(self):
        for parts in ((), (1,), (2,), (-1,), (0, 0), (None,), (True,), (False,), [0], 0, ((0,),), ("0",)):
            self.judge(EXAMPLE, (ROWS[0], (0, 4, 1, parts), END_ROW, (0, 4, 1, (0,))), False)
        for called in range(-1, 5):
            for behind in range(-1, 5):
                rows = (*ROWS[:3], (0, 2, 0, (called, behind)), (0, 3, 0, (3,)), (0, 4, 0, (4,)))
                self.judge(EXAMPLE, rows, (called, behind) == (1, 2))
        for which in range(-2, 4):
            self.judge(EXAMPLE, (*ROWS[:5], (0, 4, which, (4,))), which == 0)
            self.judge(EXAMPLE, (ROWS[0], (0, 4, which, (0,))), which == 1)
            self.judge(EXAMPLE, ((0, 0, which, ()), (0, 4, 1, (0,))), which == 0)
            self.judge(EXAMPLE, (*ROWS[:2], (0, 1, which, (0,)), *ROWS[3:]), which == 0)
            self.judge(EXAMPLE, (*ROWS[:3], (0, 2, which, (1, 2)), *ROWS[4:]), which == 0)
        # A part of another procedure, of the same number.
        program = read_program("letters a ; proc main { do a ; } proc p { do a ; }")
        self.judge(program, ((0, 0, 0, ()), (0, 1, 0, (0,))), True)
        self.judge(program, ((1, 0, 0, ()), (0, 1, 0, (0,))), False)

    def test_procedures_and_places(self):
        for strange in (-1, 5, 6, 10 ** 40, None, True, False, "0", (), (0,), [], {}, object()):
            self.judge(EXAMPLE, (ROWS[0], (0, strange, 1, (0,)), (0, 4, 1, (0,))), False)
            self.judge(EXAMPLE, (ROWS[0], (strange, 4, 1, (0,)), (0, 4, 1, (0,))), False)
            self.judge(EXAMPLE, (ROWS[0], (0, 4, strange, (0,)), (0, 4, 1, (0,))), False)
        self.judge(EXAMPLE, (ROWS[0], (1, 4, 1, (0,)), (0, 4, 1, (0,))), False)

    def test_other_objects(self):
        for thing in (*STRANGE, *NESTED, *as_lists(ROWS)):
            self.judge(EXAMPLE, thing, False)
        for part in (None, True, False, -1, 7, "", "a", (), [], [0], {}, (None,), (0,) * 3, object(), b""):
            for thing in replaced(ROWS, part):
                self.judge(EXAMPLE, thing, thing == ROWS and repr(thing) == repr(ROWS))


class Told(Judged):
    def test_very_long_runs(self):
        rows = doubling_rows(300)
        self.assertEqual(places(DOUBLING)[0][1][4], ("fork", (1, 3)))
        self.judge(DOUBLING, rows, True)
        self.assertEqual(lengths(run_text(DOUBLING, rows))[-1], 2 ** 300)
        # Each fork, letter, end; and two calls, an end behind them for each that doubles.
        self.assertEqual(run_length(DOUBLING, rows), 3 * 2 ** 300 + 4 * (2 ** 300 - 1))

    def test_empty_rows(self):
        for program, rows in ((EMPTY_MAIN, (END_ROW,)), (EXAMPLE, ROWS[:2]), (LOOPING, looping_rows(0))):
            self.assertEqual(run_text(program, rows), (("none",),))
        program = read_program("letters a ; proc main { choose { call main ; call main ; } or { } }")
        begin = places(program)[0][0]
        self.assertEqual(begin, 3)
        rows = [END_ROW, (0, 3, 1, (0,))]
        for _ in range(50):
            whole = len(rows) - 1
            rows.extend([(0, 1, 0, (whole, 0)), (0, 2, 0, (whole, len(rows))), (0, 3, 0, (len(rows) + 1,))])
        self.assertEqual(spelled(run_text(program, tuple(rows))), ())
        self.assertEqual(run_length(program, tuple(rows)), 2 * 2 ** 50 + 4 * (2 ** 50 - 1))

    def test_three_thousand_nine_hundred_rows(self):
        rows = padded(looping_rows(970), 3900)
        self.judge(LOOPING, rows, True)
        text = run_text(LOOPING, rows)
        self.assertTrue(is_straight(text))
        self.assertEqual(spelled(text), (1, -2, 1) * 970)
        self.assertEqual(run_length(LOOPING, rows), 4 * 970 + 2)
        rows = doubling_rows(1299)
        self.assertEqual(len(rows), 3900)
        self.assertEqual(lengths(run_text(DOUBLING, rows))[-1], 2 ** 1299)

    def test_all_rows_draw_letters(self):
        body = tuple(("do", name) for name in "abcdefghijklmnopqrst") * 3
        program = (tuple("abcdefghijklmnopqrst"), (("main", (("loop", body),)),))
        rows = [END_ROW, (0, 1, 1, (0,))]
        while len(rows) + 61 <= 3900:
            for place in range(2, 62):
                rows.append((0, place, 0, (len(rows) - 1,)))
            rows.append((0, 1, 0, (len(rows) - 1,)))
        rows = padded(tuple(rows), 3900)
        self.judge(program, rows, True)
        self.assertEqual(spelled(run_text(program, rows)), tuple(range(1, 21)) * 3 * 63)

    def test_texts_that_would_have_too_many_rules(self):
        body = tuple(("do", name) for name in "abcdefghijklmnopqrst") * 3
        program = (tuple("abcdefghijklmnopqrst"), (("main", (("loop", body),)),))
        rows = [END_ROW, (0, 1, 1, (0,))]
        while len(rows) + 61 <= 5000:
            for place in range(2, 62):
                rows.append((0, place, 0, (len(rows) - 1,)))
            rows.append((0, 1, 0, (len(rows) - 1,)))
        self.assertIs(is_run(program, tuple(rows)), True)
        with self.assertRaises(TooGreat):
            run_text(program, tuple(rows))

    def test_five_thousand_rows(self):
        rows = padded(doubling_rows(1665), 5000)
        self.judge(DOUBLING, rows, True)
        try:
            self.assertEqual(lengths(run_text(DOUBLING, rows))[-1], 2 ** 1665)
        except TooGreat:
            pass

    def test_no_power_of_an_empty_rule(self):
        for program, _ in programs_by_chance(5, 200):
            rows = least_run(program, "main")
            if rows:
                text = run_text(program, rows)
                sizes = lengths(text)
                self.assertTrue(all(sizes[rule[1]] for rule in text if rule[0] == "power"))


class Least(unittest.TestCase):
    def judge(self, program, name, expected):
        """A least run passes so many places, None for no run."""
        rows = least_run(program, name)
        self.assertEqual(least_run(name=name, program=program), rows)
        if expected is None:
            self.assertIsNone(rows)
            return ()
        self.assertTrue(is_run(program, rows))
        self.assertLessEqual(len(rows), 3900)
        self.assertEqual(rows[-1][0], [procedure[0] for procedure in program[1]].index(name))
        self.assertEqual(run_length(program, rows), expected)
        return spelled(run_text(program, rows))

    def test_example(self):
        self.assertEqual(self.judge(EXAMPLE, "main", 2), ())

    def test_procedures_that_cannot_end(self):
        self.judge(ENDLESS, "main", None)
        self.judge(ENDLESS, "p", None)
        self.assertEqual(self.judge(ENDLESS, "q", 2), (1,))

    def test_ways_of_unlike_lengths(self):
        program = read_program("letters a b ; proc main { choose { do a ; do a ; do a ; } or { call p ; do b ; } or "
                               "{ call q ; } } proc p { } proc q { do b ; do b ; }")
        self.assertIn(self.judge(program, "main", 5), ((1, 1, 1), (2,)))
        program = read_program("letters a b ; proc main { choose { do a ; do a ; } or { call p ; } } proc p { }")
        self.assertIn(self.judge(program, "main", 4), ((1, 1), ()))
        program = read_program("letters a b ; proc main { choose { do a ; do a ; } or { do b ; } }")
        self.assertEqual(self.judge(program, "main", 3), (2,))
        program = read_program("letters a b ; proc main { choose { call p ; } or { do b ; do b ; } } proc p { do a ; }")
        self.assertEqual(self.judge(program, "main", 4), (2, 2))

    def test_programs_by_chance(self):
        for program, name in programs_by_chance(6, 500):
            index = [procedure[0] for procedure in program[1]].index(name)
            try:
                found = runs_by_places(places(program), index, 14)
            except TooMany:
                continue
            if found:
                least = min(n for _, n in found)
                self.assertIn((self.judge(program, name, least), least), found)
            else:
                rows = least_run(program, name)
                self.assertTrue(rows is None or run_length(program, rows) > 14)

    def test_long_runs(self):
        names = [f"p{at}" for at in range(8)]
        procedures = [(name, (("call", names[at + 1]),) * 24) for at, name in enumerate(names[:-1])]
        program = (("a",), (*procedures, (names[-1], (DO,) * 20)))
        rows = least_run(program, "p0")
        self.assertTrue(is_run(program, rows))
        self.assertEqual(lengths(run_text(program, rows))[-1], 20 * 24 ** 7)
        length = 21
        for _ in range(7):
            length = 24 * (length + 1) + 1
        self.assertEqual(run_length(program, rows), length)

    def test_many_places(self):
        body = (("ensure", (("choose", ((), (DO,))),), (DO,) * 18), DO, ("loop", ()))
        program = (("a",), tuple((f"p{at}", body) for at in range(8)))
        self.assertEqual(self.judge(program, "p7", 22), (1,) * 19)


class Small(unittest.TestCase):
    def test_example(self):
        for most in range(61):
            self.assertEqual(small_words(EXAMPLE, "main", most), ((),) if most >= 2 else ())
        self.assertEqual(small_words(most=7, name="main", program=EXAMPLE), ((),))

    def test_words(self):
        self.assertEqual(small_words(LOOPING, "main", 10), ((), (1, -2, 1), (1, -2, 1, 1, -2, 1)))
        self.assertEqual(small_words(LOOPING, "main", 9), ((), (1, -2, 1)))
        self.assertEqual(small_words(EMPTY_MAIN, "main", 0), ())
        self.assertEqual(small_words(EMPTY_MAIN, "main", 1), ((),))
        program = read_program("letters a b ; proc main { choose { undo b ; do b ; } or { do b ; } or { undo a ; } }")
        self.assertEqual(small_words(program, "main", 3), ((-1,), (2,)))
        self.assertEqual(small_words(program, "main", 4), ((), (-1,), (2,)))
        self.assertEqual(small_words(ENDLESS, "main", 60), ())
        self.assertEqual(small_words(ENDLESS, "q", 60), ((1,),))

    def test_programs_by_chance(self):
        for program, name in programs_by_chance(7, 500):
            index = [procedure[0] for procedure in program[1]].index(name)
            for most in (4, 9, 14):
                try:
                    found = runs_by_places(places(program), index, most)
                except TooMany:
                    continue
                words = {word for word, _ in found}
                if len(words) <= 1000:
                    nets = {net_word(word) for word in words}
                    self.assertEqual(small_words(program, name, most), tuple(sorted(nets)))
                else:
                    with self.assertRaises(TooGreat):
                        small_words(program, name, most)

    def test_a_thousand_words_and_one_more(self):
        letters = ("a", "b", "c", "d", "e", "f", "g")
        five = ("choose", tuple((("do", name),) for name in letters[:5]))
        two = ("choose", tuple((("do", name),) for name in letters[5:]))
        thousand = (five,) * 3 + (two,) * 3
        program = (letters, (("main", thousand),))
        self.assertEqual(len(small_words(program, "main", 13)), 1000)
        self.assertEqual(len(small_words(program, "main", 60)), 1000)
        self.assertEqual(small_words(program, "main", 12), ())
        twice = (letters, (("main", (("choose", (thousand, thousand, thousand)),)),))
        self.assertEqual(len(small_words(twice, "main", 60)), 1000)
        more = (letters, (("main", (("choose", (thousand, (DO,))),)),))
        self.assertEqual(small_words(more, "main", 13), ((1,),))
        for most in (14, 60):
            with self.assertRaises(TooGreat):
                small_words(more, "main", most)

    def test_words_that_become_the_same_count_all(self):
        # Each of ten steps does and undoes one of two letters: one net of 1,024 words.
        step = ("choose", ((DO, ("undo", "a")), (("do", "b"), ("undo", "b"))))
        program = (("a", "b"), (("main", (step,) * 10),))
        with self.assertRaises(TooGreat):
            small_words(program, "main", 31)
        self.assertEqual(small_words(program, "main", 30), ())
        nine = (("a", "b"), (("main", (step,) * 9),))
        self.assertEqual(small_words(nine, "main", 60), ((),))

    def test_only_the_runs_of_the_procedure_count(self):
        step = ("choose", ((DO,), (("do", "b"),)))
        program = (("a", "b"), (("main", (("choose", ((("call", "p"),), ())),)), ("p", (step,) * 12)))
        self.assertEqual(small_words(program, "main", 25), ((),))
        self.assertEqual(small_words(program, "p", 24), ())
        with self.assertRaises(TooGreat):
            small_words(program, "main", 28)
        short = (("a", "b"), (("main", (("call", "p"),)), ("p", (("choose", ((step,) * 12, ())),))))
        self.assertEqual(small_words(short, "main", 27), ((),))
        with self.assertRaises(TooGreat):
            small_words(short, "main", 28)
        endless = (("a", "b"), (("main", (("choose", ((("call", "p"), ("call", "q")), ())),)), ("p", (step,) * 12),
                                ("q", (("call", "q"),))))
        self.assertEqual(small_words(endless, "main", 60), ((),))

    def test_what_is_no_limit(self):
        for most in (-1, 61, 10 ** 40, -10 ** 40, True, False, None, "1", (), (1,), [], {}, object()):
            with self.assertRaises(BadLimit):
                small_words(EXAMPLE, "main", most)
            with self.assertRaises(BadLimit):
                small_words(most=most, name="main", program=EXAMPLE)
            with self.assertRaises(BadName):
                small_words(EXAMPLE, "p", most)
            with self.assertRaises(NotChecked):
                small_words(main_only(("do", "b")), "p", most)


class Names(unittest.TestCase):
    def test_what_is_no_name_of_a_procedure(self):
        for name in (*(thing for thing in STRANGE if thing != "main"), "p", "Main", "main ", ("main",), "a"):
            with self.assertRaises(BadName):
                least_run(EXAMPLE, name)
            with self.assertRaises(BadName):
                small_words(EXAMPLE, name, 3)
            for thing in (None, (), [EXAMPLE], EXAMPLE[:1]):
                with self.assertRaises(BadProgram):
                    least_run(thing, name)
                with self.assertRaises(BadProgram):
                    small_words(thing, name, 3)
            with self.assertRaises(NotChecked):
                least_run(main_only(("ensure", (), (RETURN,))), name)

    def test_each_procedure(self):
        self.assertEqual(least_run(ENDLESS, "q"), ((2, 0, 0, ()), (2, 1, 0, (0,))))


if __name__ == "__main__":
    unittest.main()
