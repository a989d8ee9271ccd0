"""Promises [3], [17], [18] and [19]: useful places, and what all ended runs leave."""

import unittest

from undoneall.errors import TooGreat
from undoneall.places import places
from undoneall.programs import read_program
from undoneall.residues import is_table, is_two, residue, useful
from undoneall.runs import is_run, least_run, run_text, small_words
from undoneall.shrinking import repeated, shrunk, written
from undoneall.straight import lengths
from tests.faults import check_name_errors, check_names_of_parameters
from tests.keeping_programs import keeping_programs
from tests.plain import net_word, text_of, words_of
from tests.plain_runs import TooMany, programs_by_chance, runs_by_places
from tests.plain_standing import row_words, table_holds, useful_places
from tests.samples import DO, NESTED, RETURN, STRANGE, UNDO, as_lists, main_only, replaced, with_places

NONE = (("none",),)
EMPTY = main_only()
CIRCLE = main_only(("call", "main"))
LOCKS = read_program("letters lock open ; proc main { do lock ; choose { call main ; } or { } undo lock ; }")
COUNTING = main_only(("loop", (DO,)))
# b after a, by a choice that makes no difference; q cannot end, r is not called.
SEVERAL = read_program("letters a b ; proc main { choose { call p ; do b ; } or { call q ; } or { do a ; do b ; "
                       "return ; "
                       "undo b ; } } proc p { choose { do a ; } or { do a ; do b ; undo b ; } } proc q { do b ; call "
                       "q ; "
                       "} proc r { choose { do a ; } or { do b ; } }")


def doubling(times, last):
    """Procedures each of which calls the next one so many times, the last one of them doing the last body."""
    names = ("main", "p", "q", "r", "s", "t", "u", "v")
    bodies = [(("call", name),) * times for name in names[1:]]
    return (("a", "b"), tuple(zip(names, (*bodies, last))))


class Useful(unittest.TestCase):
    def test_edges(self):
        self.assertEqual(useful(EMPTY, "main"), ((0, 0),))
        self.assertEqual(useful(CIRCLE, "main"), ())
        self.assertEqual(useful(LOCKS, "main"), tuple((0, place) for place in range(5)))
        self.assertEqual(useful(COUNTING, "main"), ((0, 0), (0, 1), (0, 2)))

    def test_several_procedures(self):
        begin, kinds = places(SEVERAL)[0]
        calls = {kind[1]: (0, at) for at, kind in enumerate(kinds) if kind[0] == "call"}
        behind_return = (0, kinds.index(("letter", -2, 0)))
        wanted = {(0, at) for at in range(len(kinds))} - {calls[2], behind_return}
        wanted |= {(1, at) for at in range(len(places(SEVERAL)[1][1]))}
        self.assertEqual(useful(SEVERAL, "main"), tuple(sorted(wanted)))
        self.assertEqual(useful(SEVERAL, "q"), ())
        self.assertEqual({at for at, _ in useful(SEVERAL, "r")}, {3})

    def test_by_chance(self):
        for program, name in (*programs_by_chance(31, 250), *keeping_programs(32, 100)):
            index = [procedure[0] for procedure in program[1]].index(name)
            self.assertEqual(useful(program, name), useful_places(places(program), index))

    def test_three_hundred_places(self):
        program = with_places(300)
        begin, kinds = places(program)[0]
        self.assertEqual(len(kinds), 300)
        # Ten returns follow one another, so the first one's second body alone is done.
        self.assertEqual(useful(program, "main"), ((0, 0), *((0, at) for at in sorted(self.line(kinds, begin)))))

    def line(self, kinds, at):
        """The places from one on, up to the end, where there are no forks."""
        found = []
        while at != 0:
            found.append(at)
            at = kinds[at][-1]
        return found


class Residues(unittest.TestCase):
    def test_examples(self):
        kind, net, table = residue(LOCKS, "main")
        self.assertEqual((kind, net), ("one", NONE))
        rest = (("letter", -1),)
        self.assertEqual(table, ((0, 0, NONE), (0, 1, rest), (0, 2, rest), (0, 3, rest), (0, 4, NONE)))

    def test_none(self):
        self.assertEqual(residue(CIRCLE, "main"), ("none",))
        self.assertEqual(residue(SEVERAL, "q"), ("none",))
        self.assertIs(is_table(CIRCLE, "main", ()), True)
        self.assertIs(is_table(CIRCLE, "main", ((0, 0, NONE),)), False)
        self.assertIs(is_two(CIRCLE, "main", (((0, 0, 0, ()),),) * 2), False)

    def test_empty_body(self):
        self.assertEqual(residue(EMPTY, "main"), ("one", NONE, ((0, 0, NONE),)))
        self.assertEqual(residue(main_only(RETURN), "main"), ("one", NONE, ((0, 0, NONE),)))

    def test_what_cannot_be_passed_does_not_count(self):
        kind, net, table = residue(SEVERAL, "main")
        self.assertEqual((kind, net), ("one", written((1, 2))))
        self.assertTrue(table_holds(places(SEVERAL), useful(SEVERAL, "main"), table))
        self.assertEqual(residue(SEVERAL, "p")[:2], ("one", written((1,))))
        self.assertEqual(residue(SEVERAL, "r")[0], "two")

    def test_two_from_within_calls(self):
        program = read_program("letters a b ; proc main { do a ; call p ; undo a ; call p ; } proc p { call q ; } "
                               "proc q "
                               "{ loop { choose { do b ; undo b ; } or { do a ; undo b ; } } }")
        for name in ("main", "p", "q"):
            told = residue(program, name)
            self.check_two(program, name, told)

    def check_two(self, program, name, told):
        """residue tells two runs that leave unlike nets."""
        index = [procedure[0] for procedure in program[1]].index(name)
        self.assertEqual((told[0], len(told)), ("two", 3))
        nets = []
        for rows in told[1:]:
            self.assertTrue(is_run(program, rows))
            self.assertEqual(rows[-1][:2], (index, places(program)[index][0]))
            nets.append(net_word(row_words(places(program), rows)[-1]))
        self.assertNotEqual(nets[0], nets[1])
        self.assertIs(is_two(program, name, told[1:]), True)
        self.assertIs(is_two(program, name, (told[1], told[1])), False)

    def test_by_chance(self):
        seen = {"none": 0, "one": 0, "two": 0}
        for program, name in (*programs_by_chance(33, 500), *keeping_programs(34, 250)):
            layout = places(program)
            index = [procedure[0] for procedure in program[1]].index(name)
            told = residue(program, name)
            seen[told[0]] += 1
            if told[0] == "none":
                self.assertIsNone(least_run(program, name))
            elif told[0] == "two":
                self.check_two(program, name, told)
            else:
                self.assertTrue(table_holds(layout, useful(program, name), told[2]))
                self.assertTrue(all(shrunk(entry[2]) == entry[2] for entry in told[2]))
                self.assertEqual({entry[:2]: entry[2] for entry in told[2]}[(index, layout[index][0])], told[1])
                try:
                    words = {net_word(word) for word, _ in runs_by_places(layout, index, 20)}
                except TooMany:
                    continue
                self.assertLessEqual(words, {words_of(told[1])[-1]})
        self.assertGreater(min(seen.values()), 50)

    def test_one_choice_out_of_many_makes_two(self):
        names = ("a", "b")
        alike = (("do", "a"), ("do", "b"), ("undo", "b"))
        for at in range(6):
            bodies = [alike] * 6
            bodies[at] = (("do", "b"), ("undo", "b"), ("do", "a"), ("do", "b"))
            program = (names, (("main", (("choose", tuple(bodies)), ("undo", "a"))),))
            self.check_two(program, "main", residue(program, "main"))
        program = (names, (("main", (("choose", (alike,) * 6), ("undo", "a"))),))
        self.assertEqual(residue(program, "main")[:2], ("one", NONE))

    def test_words_that_cannot_be_written_out(self):
        program = doubling(24, (("do", "a"), ("do", "b")))
        kind, net, table = residue(program, "main")
        self.assertEqual((kind, net), ("one", repeated(written((1, 2)), 24 ** 7)))
        self.assertEqual(len(table), 7 * 25 + 3)
        self.assertIs(is_table(program, "main", table), True)
        at = next(at for at, entry in enumerate(table) if entry[:2] == (0, 7))
        for k in (24 ** 6 * 7, 24 ** 6 * 7 - 1, 24 ** 6 * 7 + 1):
            other = (*table[:at], (0, 7, repeated(written((1, 2)), k)), *table[at + 1:])
            self.assertIs(is_table(program, "main", other), k == 24 ** 6 * 7)
        # As long, but another word.
        other = (*table[:at], (0, 7, repeated(written((2, 1)), 24 ** 6 * 7)), *table[at + 1:])
        self.assertIs(is_table(program, "main", other), False)

    def test_long_words_that_go_again(self):
        names = ("p", "q", "r", "u", "v", "w")
        for last in (("undo", "b"), UNDO), (UNDO, ("undo", "b")):
            bodies = (*[(("call", name),) * 20 for name in names[1:3]], (DO, ("do", "b")) * 10,
                      *[(("call", name),) * 20 for name in names[4:]], last * 10)
            program = (("a", "b"), (("main", (("loop", (("call", "p"), ("call", "u"))),)), *zip(names, bodies)))
            told = residue(program, "main")
            if last[0] == UNDO:
                self.assertEqual(told[0], "two")
                self.assertIs(is_two(program, "main", told[1:]), True)
            else:
                self.assertEqual(told[:2], ("one", NONE))
                self.assertIs(is_table(program, "main", told[2]), True)
                self.assertEqual(max(lengths(entry[2])[-1] for entry in told[2]), 20 * 20 * 20)

    def test_two_whose_rows_are_many(self):
        program = (("a",), tuple((name, (("choose", ((("call", after),), (("call", after),) * 3)),) * 3)
                                 for name, after in zip("bcdefgh", "cdefghi")) + (("i", (("choose", ((DO,), ())),)),))
        for name in "bi":
            told = residue(program, name)
            self.assertIs(is_two(program, name, told[1:]), True)


class Judges(unittest.TestCase):
    def test_tables_with_other_texts_of_the_same_words(self):
        table = residue(SEVERAL, "main")[2]
        for at, (procedure, place, text) in enumerate(table):
            longer = (("letter", 2), *self.shifted(text), ("none",), ("pair", len(text), len(text) + 1))
            plain = text_of(words_of(text)[-1])
            for other in (longer, plain):
                self.assertIs(is_table(SEVERAL, "main", (*table[:at], (procedure, place, other), *table[at + 1:])),
                              True)
            for word in ((1,), (2, 2), (), (2, 1), (1, 2)):
                other = (*table[:at], (procedure, place, text_of(word)), *table[at + 1:])
                self.assertIs(is_table(SEVERAL, "main", other), word == words_of(text)[-1])

    def shifted(self, text):
        """The rules with one ahead of them."""
        return tuple(rule if rule[0] in ("none", "letter") else
                     (rule[0], rule[1] + 1, rule[2] + (rule[0] == "pair")) for rule in text)

    def test_words_that_are_not_reduced(self):
        bad = text_of((1, -1))
        self.assertIs(is_table(EMPTY, "main", ((0, 0, NONE),)), True)
        self.assertIs(is_table(EMPTY, "main", ((0, 0, bad),)), False)
        self.assertIs(is_table(main_only(DO, UNDO), "main", ((0, 0, NONE), (0, 1, text_of((-1,))), (0, 2, bad))), False)
        self.assertIs(is_table(main_only(DO, UNDO), "main", ((0, 0, NONE), (0, 1, text_of((-1,))), (0, 2, NONE))), True)
        # A loop of forks alone: all of them have the word of what is behind.
        program = main_only(("loop", (("loop", ()),)), DO)
        table = residue(program, "main")[2]
        self.assertIs(is_table(program, "main", table), True)
        twisted = tuple((*entry[:2], text_of((1, -1, 1))) if entry[2] == text_of((1,)) else entry for entry in table)
        self.assertIs(is_table(program, "main", twisted), False)

    def test_tables_too_few_too_many_out_of_sequence(self):
        table = residue(SEVERAL, "main")[2]
        self.assertIs(is_table(SEVERAL, "main", table), True)
        for at in range(len(table)):
            self.assertIs(is_table(SEVERAL, "main", table[:at] + table[at + 1:]), False)
            self.assertIs(is_table(SEVERAL, "main", table[:at] + table[at:at + 1] + table[at:]), False)
            swapped = (*table[:at], *table[at:at + 2][::-1], *table[at + 2:])
            self.assertIs(is_table(SEVERAL, "main", swapped), at == len(table) - 1)
        more = tuple(sorted((*table, (0, 8, NONE), (2, 0, NONE))))
        self.assertIs(is_table(SEVERAL, "main", more), False)

    def test_no_table_where_two_are_left(self):
        self.assertEqual(residue(COUNTING, "main")[0], "two")
        for word in ((), (1,), (1, 1)):
            for other in ((), (1,), (1, 1)):
                thing = ((0, 0, NONE), (0, 1, text_of(word)), (0, 2, text_of(other)))
                self.assertIs(is_table(COUNTING, "main", thing), False)

    def test_tables_by_chance(self):
        for program, name in keeping_programs(35, 120):
            told = residue(program, name)
            if told[0] != "one":
                continue
            for at, entry in enumerate(told[2]):
                for word in ((), (1,), words_of(entry[2])[-1] + (1, -1)):
                    other = (*told[2][:at], (*entry[:2], text_of(word)), *told[2][at + 1:])
                    expected = table_holds(places(program), useful(program, name), other)
                    self.assertIs(is_table(program, name, other), expected)

    def test_pairs_of_runs(self):
        end, fork = (0, 0, 0, ()), (0, 1, 1, (0,))
        once = (end, fork, (0, 2, 0, (1,)), (0, 1, 0, (2,)))
        self.assertIs(is_two(COUNTING, "main", ((end, fork), once)), True)
        self.assertIs(is_two(COUNTING, "main", (once, (end, fork))), True)
        for thing in ((once, once), (once,), (once, once, (end, fork)), [once, (end, fork)], ((end,), once),
                      (once[:3], once), (once, ()), ((end, fork), list(once)), ((end, (0, 1, 0, (0,))), once)):
            self.assertIs(is_two(COUNTING, "main", thing), False)
        # Rows that are not used count for nothing.
        self.assertIs(is_two(COUNTING, "main", ((end, fork), (*once, (0, 1, 1, (0,))))), False)
        # Runs of other procedures.
        program = (("a",), (("main", ()), ("p", (("loop", (DO,)),))))
        other = tuple((1, *row[1:]) for row in once)
        self.assertIs(is_two(program, "p", (other, other[:2])), True)
        self.assertIs(is_two(program, "main", (other, other[:2])), False)
        program = (("a",), (("main", (("loop", (DO,)),)), ("p", (("loop", (DO,)),))))
        self.assertIs(is_two(program, "p", (other, other[:2])), True)
        self.assertIs(is_two(program, "main", (other, other[:2])), False)
        self.assertIs(is_two(program, "main", (once, other[:2])), False)

    def test_long_runs(self):
        program = read_program("letters a b ; proc main { choose { do a ; } or { call main ; do b ; call main ; } }")
        begin, kinds = places(program)[0]
        calls = sorted((at for at, kind in enumerate(kinds) if kind[0] == "call"), key=lambda at: kinds[at][2])
        letters = {kind[1]: at for at, kind in enumerate(kinds) if kind[0] == "letter"}

        def rows(times):
            """The rows of a run that calls itself twice, so many times."""
            found = [(0, 0, 0, ()), (0, letters[1], 0, (0,)), (0, begin, 0, (1,))]
            for _ in range(times):
                last = len(found) - 1
                found.append((0, calls[0], 0, (last, 0)))
                found.append((0, letters[2], 0, (last + 1,)))
                found.append((0, calls[1], 0, (last, last + 2)))
                found.append((0, begin, 1, (last + 3,)))
            return tuple(found)

        self.assertEqual(len(rows(1249)), 4999)
        for one, other in ((1249, 1249), (1249, 1248), (300, 300), (1, 0)):
            self.assertIs(is_two(program, "main", (rows(one), rows(other))), one != other)
        more = (*((0, 0, 0, ()),) * 2, *(tuple((*row[:3], tuple(part + 2 for part in row[3])) for row in rows(1249))))
        self.assertEqual(len(more), 5001)
        self.assertIs(is_run(program, more), False)
        self.assertIs(is_two(program, "main", (rows(1), more)), False)
        self.assertIs(is_two(program, "main", (rows(1), more[1:])), False)
        self.assertIs(is_two(program, "main", (rows(1), ((0, 0, 0, ()), *rows(0)))), False)

    def test_any_object(self):
        table = residue(LOCKS, "main")[2]
        runs = residue(COUNTING, "main")[1:]
        for thing in (*STRANGE, *NESTED):
            self.assertIs(is_table(LOCKS, "main", thing), False)
            self.assertIs(is_two(COUNTING, "main", thing), False)
            self.assertIs(is_table(CIRCLE, "main", thing), thing == () and isinstance(thing, tuple))
        for thing in as_lists(table):
            self.assertIs(is_table(LOCKS, "main", thing), False)
        for thing in as_lists(runs):
            self.assertIs(is_two(COUNTING, "main", thing), False)
        for part in (None, True, False, "a", -1, [], (), ("none",), 10 ** 30):
            for thing in replaced(table, part):
                self.assertIs(is_table(LOCKS, "main", thing), repr(thing) == repr(table))
            for thing in replaced(runs, part):
                if part != ():
                    self.assertIs(is_two(COUNTING, "main", thing), False)

    def test_errors_in_sequence(self):
        for function, rest in ((useful, ()), (residue, ()), (is_table, (None,)), (is_two, (((), ()),))):
            check_name_errors(self, function, *rest)
        fit = (("a",), (("main", ()), ("p", with_places(300)[1][0][1])))
        self.assertEqual(residue(fit, "main"), ("one", NONE, ((0, 0, NONE),)))
        self.assertEqual(residue(fit, "p")[0], "one")

    def test_names_of_parameters(self):
        for function in (useful, residue):
            check_names_of_parameters(self, function, program=SEVERAL, name="main")
        table = residue(SEVERAL, "main")[2]
        self.assertIs(check_names_of_parameters(self, is_table, program=SEVERAL, name="main", thing=table), True)
        runs = residue(SEVERAL, "r")[1:]
        self.assertIs(check_names_of_parameters(self, is_two, program=SEVERAL, name="r", thing=runs), True)


class MainProperty(unittest.TestCase):
    def test_just_one_of_table_and_two_runs(self):
        for program, name in (*programs_by_chance(36, 150), *keeping_programs(37, 100)):
            told = residue(program, name)
            if told[0] == "two":
                self.assertEqual([run_text(program, rows) is None for rows in told[1:]], [False, False])
            try:
                found = small_words(program, name, 14)
            except TooGreat:
                continue
            if told[0] == "none":
                self.assertEqual(found, ())
            elif told[0] == "one":
                self.assertLessEqual(set(found), {words_of(told[1])[-1]})


if __name__ == "__main__":
    unittest.main()
