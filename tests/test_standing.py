"""Promises [21], [22] and [23]: whether anything goes wrong, and how many deeds stand at most."""

import unittest

from undoneall.errors import NotOne, TooGreat, Wrong
from undoneall.places import places
from undoneall.programs import read_program
from undoneall.residues import residue
from undoneall.standing import is_beginning, is_endless, is_keeping, is_wrong, keeps, standing, stands
from undoneall.straight import spelled
from tests.faults import check_name_errors, check_names_of_parameters
from tests.keeping_programs import keeping_programs
from tests.plain import net_word, words_of
from tests.plain_runs import programs_by_chance
from tests.plain_standing import can_end, come_to, first_fault, followed, goes_wrong, graph_holds
from tests.samples import DO, NESTED, RETURN, STRANGE, UNDO, as_lists, main_only, replaced, with_places

LOCKS = read_program("letters lock open ; proc main { do lock ; choose { call main ; } or { } undo lock ; }")
EMPTY = main_only()
CIRCLE = main_only(("call", "main"))
COUNTING = main_only(("loop", (DO,)))
LOOP = ("loop", ())


def nets_of(program, called):
    """The words of the procedures with these indexes that leave one."""
    told = {at: residue(program, program[1][at][0]) for at in called}
    return {at: words_of(one[1])[-1] for at, one in told.items() if one[0] == "one"}


def looked_at(program, name):
    """The layout, the index, the called procedures ([21]) and the places that beginnings come to."""
    layout = places(program)
    index = [procedure[0] for procedure in program[1]].index(name)
    ends = can_end(layout)
    ending = {at for at, (begin, _) in enumerate(layout) if (at, begin) in ends}
    reached = come_to(layout, index, ending)
    kinds = [layout[procedure][1][place] for procedure, place in reached]
    return layout, index, sorted({kind[1] for kind in kinds if kind[0] == "call"}), reached


def doing(sizes, first=()):
    """A program in which main calls procedures that leave so many letters each, and has some more statements."""
    procedures = [("main", (*(("call", f"p{at}") for at in range(len(sizes))), *first))]
    for at, size in enumerate(sizes):
        procedures.append((f"p{at}", (("ensure", (RETURN,), (DO,) * size),) if size < 60 else
                           (("call", f"q{at}"),) * (size // 25) + (DO,) * (size % 25)))
        if size >= 60:
            procedures.append((f"q{at}", (DO,) * 25))
    return (("a", "b"), tuple(procedures))


def counted(program, name):
    """What [21] counts for a program."""
    layout, _, called, reached = looked_at(program, name)
    nets = nets_of(program, called)
    kinds = [layout[procedure][1][place] for procedure, place in reached]
    return len(reached) + sum(len(nets[kind[1]]) for kind in kinds if kind[0] == "call" and kind[1] in nets)


class Kept(unittest.TestCase):
    def check(self, program, name="main"):
        """What keeps and standing tell fits together and is right; return what they tell."""
        layout, index, called, _ = looked_at(program, name)
        nets = nets_of(program, called)
        told = keeps(program, name)
        self.assertEqual(len(told), 2)
        if told[0] == "wrong":
            self.assertIs(is_beginning(program, name, told[1]), True)
            self.assertIs(is_wrong(program, name, told[1]), True)
            self.assertTrue(goes_wrong(layout, index, told[1]))
            with self.assertRaises(Wrong) as caught:
                standing(program, name)
            self.assertIs(is_wrong(program, name, caught.exception.beginning), True)
            return told[0], None
        self.assertEqual(told[0], "keeps")
        self.assertIs(is_keeping(program, name, told[1]), True)
        self.assertTrue(graph_holds(layout, index, nets, len(program[0]), told[1]))
        most = standing(program, name)
        if most[0] == "most":
            self.check_most(program, name, most)
        else:
            self.check_endless(program, name, most)
        return told[0], most

    def check_most(self, program, name, most):
        """standing tells a beginning behind which so many deeds stand."""
        self.assertEqual((most[0], len(most)), ("most", 3))
        word = spelled(stands(program, name, most[2]))
        self.assertEqual(len(word), most[1])
        self.assertTrue(all(x > 0 for x in word))

    def check_endless(self, program, name, endless):
        """standing tells a place that is come to twice, with more deeds."""
        self.assertEqual((endless[0], len(endless)), ("endless", 4))
        _, beginning, leg, moves = endless
        layout, index, _, _ = looked_at(program, name)
        courses, deeds = followed(layout, index, beginning)
        self.assertEqual((courses[leg][0], courses[leg][1][moves]), (courses[-1][0], courses[-1][1][-1]))
        rest = [*deeds[leg][moves:], *(deed for deeds in deeds[leg + 1:] for deed in deeds)]
        self.assertNotEqual(net_word(sum(rest, ())), ())
        self.assertIs(is_endless(program, name, endless[1:]), True)

    def most(self, program, name="main"):
        """The most that stands, None for ever more, "wrong" if something goes wrong."""
        word, most = self.check(program, name)
        return word if word == "wrong" else most[1] if most[0] == "most" else None

    def test_example(self):
        self.assertIsNone(self.most(LOCKS))
        _, graph = keeps(LOCKS, "main")
        states = {place: state for _, place, state in graph[2]}
        self.assertIn((states[4], 1, states[3]), graph[1])
        self.assertIn((states[3], 0, states[2]), graph[1])
        self.assertIn((states[2], 0, states[4]), graph[1])
        self.assertEqual(standing(LOCKS, "main")[2:], (0, 0))
        self.assertIs(is_endless(LOCKS, "main", (((), ((0, 0), ())), 0, 0)), True)

    def test_least_programs(self):
        self.assertEqual(standing(EMPTY, "main"), ("most", 0, ((), ((),))))
        self.assertEqual(self.most(EMPTY), 0)
        self.assertEqual(self.most(CIRCLE), 0)
        self.assertEqual(self.most(main_only(LOOP)), 0)
        self.assertEqual(self.most(main_only(DO)), 1)
        self.assertEqual(self.most(main_only(DO, UNDO)), 1)
        self.assertEqual(self.most(main_only(UNDO)), "wrong")
        self.assertEqual(self.most(main_only(DO, UNDO, UNDO)), "wrong")
        self.assertEqual(self.most(main_only(DO, ("call", "main"))), None)
        self.assertEqual(self.most(main_only(UNDO, ("call", "main"))), "wrong")
        self.assertEqual(self.most(COUNTING), None)
        self.assertEqual(self.most(main_only(("loop", (DO, UNDO)), DO)), 1)

    def test_order_of_undoings(self):
        a, b, undo_b = DO, ("do", "b"), ("undo", "b")
        for body, expected in (((a, b, undo_b, UNDO), 2), ((a, b, UNDO, undo_b), "wrong"), ((a, undo_b), "wrong"),
                               ((a, b, undo_b, undo_b), "wrong"), ((a, ("loop", (b, undo_b)), UNDO), 2),
                               ((a, ("choose", ((b, undo_b), ())), UNDO), 2), ((a, ("loop", (UNDO, a)), UNDO), 1),
                               ((a, ("loop", (UNDO, b)), UNDO), "wrong"), ((("loop", (a,)), ("loop", (UNDO,))),
                                                                           "wrong"),
                               ((a, ("choose", ((b,), ())), ("choose", ((UNDO,), ()))), "wrong"),
                               ((a, ("choose", ((UNDO, b), (b,))), undo_b), 2),
                               ((("choose", ((a,), (b,))), ("choose", ((UNDO,), (undo_b,)))), "wrong"),
                               ((("choose", ((a, UNDO), (b, undo_b))), b), 1)):
            self.assertEqual(self.most((("a", "b"), (("main", body),))), expected, body)

    def test_ways_that_never_end_count(self):
        # p never ends; main leaves nothing at all, but what p does is done.
        program = read_program("letters a b ; proc main { do a ; call p ; undo b ; } proc p { do b ; call p ; }")
        self.assertIsNone(self.most(program))
        program = read_program("letters a b ; proc main { do a ; call p ; undo b ; } proc p { undo b ; call p ; }")
        self.assertEqual(self.most(program), "wrong")
        program = read_program("letters a b ; proc main { do a ; call p ; undo b ; } proc p { do b ; undo b ; call p "
                               "; }")
        self.assertEqual(self.most(program), 2)

    def test_calls(self):
        for text, expected in (
                ("main { call p ; call q ; } proc p { do a ; do b ; } proc q { undo b ; undo a ; }", 2),
                ("main { call p ; call q ; } proc p { do a ; do b ; } proc q { undo a ; undo b ; }", "wrong"),
                ("main { call p ; call q ; } proc p { do a ; do b ; undo b ; } proc q { do b ; undo b ; undo a ; }", 2),
                ("main { do a ; call p ; } proc p { undo a ; do a ; }", 1),
                ("main { call p ; } proc p { undo a ; do a ; }", "wrong"),
                ("main { do b ; call p ; } proc p { undo a ; do a ; }", "wrong"),
                ("main { do b ; do a ; call p ; undo b ; } proc p { call q ; } proc q { undo a ; }", 2),
                ("main { do a ; do b ; call p ; undo b ; } proc p { call q ; } proc q { undo a ; }", "wrong"),
                ("main { call p ; call p ; call p ; call q ; call q ; call q ; } proc p { do a ; } proc q { undo a ; "
                 "}", 3),
                ("main { call p ; call p ; call q ; call q ; call q ; } proc p { do a ; } proc q { undo a ; }",
                 "wrong")):
            self.assertEqual(self.most(read_program(f"letters a b ; proc {text}")), expected, text)

    def test_recursion(self):
        for text, expected in (
                ("main { do a ; choose { undo a ; do b ; undo b ; do a ; call main ; undo b ; do b ; } or { } undo a "
                 "; }",
                 "wrong"),
                ("main { do a ; choose { do b ; call main ; undo b ; } or { } undo a ; }", None),
                ("main { do a ; choose { undo a ; call main ; do a ; } or { } undo a ; }", 1),
                ("main { do a ; choose { undo a ; call main ; do b ; undo b ; do a ; } or { } undo a ; }", 1),
                ("main { choose { call p ; } or { } } proc p { do a ; call main ; undo a ; }", None)):
            self.assertEqual(self.most(read_program(f"letters a b ; proc {text}")), expected, text)

    def test_other_procedures(self):
        program = read_program("letters a ; proc main { undo a ; } proc p { do a ; call main ; } proc q { call p ; do "
                               "a ; }")
        self.assertEqual(self.most(program), "wrong")
        self.assertEqual(self.most(program, "p"), 1)
        self.assertEqual(self.most(program, "q"), 1)

    def test_many_deeds_by_calls(self):
        program = read_program("letters a b ; proc main { " + "call p ; " * 6 + "call w ; } proc p { " +
                               "call q ; " * 5 +
                               "} proc q { " + "do a ; " * 10 + "do b ; undo b ; } proc w { undo a ; }")
        self.assertEqual(self.most(program), 301)

    def test_by_chance(self):
        seen = {}
        for program, name in (*programs_by_chance(51, 500), *keeping_programs(52, 300)):
            layout, index, called, reached = looked_at(program, name)
            nets = nets_of(program, called)
            several = [at for at in called if residue(program, program[1][at][0])[0] == "two"]
            if several:
                for function, rest in ((keeps, ()), (standing, ()), (is_keeping, (None,))):
                    with self.assertRaises(NotOne) as caught:
                        function(program, name, *rest)
                    self.assertEqual(caught.exception.name, program[1][several[0]][0])
                continue
            told = self.most(program, name)
            wrong, high, is_whole = first_fault(layout, index, nets, 1500, 30)
            self.assertIs(told == "wrong", wrong or (told == "wrong" and not is_whole))
            if is_whole:
                self.assertEqual(told, high)
            seen[told] = seen.get(told, 0) + 1
        for told in ("wrong", None, 0, 1, 2, 3):
            self.assertGreater(seen[told], 10, seen)


class Demands(unittest.TestCase):
    def functions(self):
        """The functions that want called procedures to leave one word."""
        return ((keeps, ()), (standing, ()), (is_keeping, (None,)), (is_keeping, ((1, (), (), ()),)))

    def not_one(self, program, name):
        """The name that NotOne tells, None if nothing is raised."""
        found = []
        for function, rest in self.functions():
            try:
                function(program, name, *rest)
                found.append(None)
            except NotOne as error:
                found.append(error.name)
            except Wrong:
                found.append(None)
        self.assertEqual(len(set(found)), 1)
        return found[0]

    def test_the_first_by_indexes(self):
        several = "{ choose { do a ; } or { } }"
        text = f"letters a ; proc main {{ call r ; call q ; }} proc p {several} proc q {several} proc r {several}"
        self.assertEqual(self.not_one(read_program(text), "main"), "q")
        text = f"letters a ; proc main {{ call r ; }} proc p {several} proc q {{ }} proc r {{ call p ; }}"
        self.assertEqual(self.not_one(read_program(text), "main"), "p")
        text = f"letters a ; proc p {several} proc main {{ call r ; }} proc r {{ call q ; }} proc q {{ do a ; }}"
        self.assertIsNone(self.not_one(read_program(text), "main"))

    def test_the_named_one_counts_only_if_it_is_called(self):
        self.assertIsNone(self.not_one(COUNTING, "main"))
        self.assertEqual(self.not_one(main_only(("choose", ((("call", "main"),), (DO,), ()))),
                                      "main"), "main")
        program = read_program("letters a ; proc main { choose { do a ; } or { call p ; } } proc p { call p ; call "
                               "main ; }")
        self.assertIsNone(self.not_one(program, "main"))
        program = read_program("letters a ; proc main { choose { do a ; } or { call p ; } or { } } proc p { call main "
                               "; }")
        self.assertEqual(self.not_one(program, "main"), "main")

    def test_calls_count_where_a_beginning_comes_to_them(self):
        # q has several nets.
        ending = "proc q { choose { do a ; } or { } }"
        for text, expected in (("main { return ; call q ; }", None), ("main { call p ; call q ; } proc p { call p ; "
                                                                      "}", None),
                               ("main { call p ; call q ; } proc p { }", "q"),
                               ("main { call p ; } proc p { call p ; call q ; }", None),
                               ("main { call p ; } proc p { call q ; call p ; }", "q"),
                               ("main { call q ; call p ; } proc p { call p ; }", "q"),
                               ("main { call p ; } proc p { choose { call q ; } or { } call p ; }", "q")):
            self.assertEqual(self.not_one(read_program(f"letters a ; proc {text} {ending}"), "main"), expected, text)

    def test_several_nets_count_as_passed(self):
        text = ("letters a ; proc main { call q ; call p ; } proc p { choose { do a ; } or { } } "
                "proc q { choose { do a ; } or { } }")
        self.assertEqual(self.not_one(read_program(text), "main"), "p")

    def test_ways_that_go_wrong_count(self):
        text = "letters a ; proc main { undo a ; call p ; } proc p { choose { do a ; } or { } }"
        self.assertEqual(self.not_one(read_program(text), "main"), "p")
        text = "letters a ; proc main { undo a ; call p ; } proc p { call p ; }"
        self.assertIsNone(self.not_one(read_program(text), "main"))

    def test_sums(self):
        # main has three places and as many letters as both nets have.
        for behind in range(45):
            program = doing((310, 310, 310), (DO,) * behind)
            if counted(program, "main") == 2000:
                break
        self.assertEqual(counted(program, "main"), 2000)
        self.assertEqual(keeps(program, "main")[0], "keeps")
        self.assertEqual(standing(program, "main")[:2], ("most", 930 + behind))
        self.assertIs(is_keeping(program, "main", keeps(program, "main")[1]), True)
        more = doing((310, 310, 310), (DO,) * (behind + 1))
        self.assertEqual(counted(more, "main"), 2001)
        self.check_too_great(more)
        # What is not come to does not count.
        self.assertEqual(keeps(doing((310, 310, 310), (*(DO,) * behind, RETURN, DO)), "main")[0], "keeps")
        self.check_too_great(doing((310, 310, 310), (*(DO,) * behind, LOOP, DO)))

    def check_too_great(self, program):
        """All that wants the sum to be less raises TooGreat."""
        for function, rest in self.functions():
            with self.assertRaises(TooGreat):
                function(program, "main", *rest)

    def test_calls_that_cannot_be_passed_count_once(self):
        program = (("a",), (("main", (("choose", ((("call", "p"),),) * 6),)), ("p", (("call", "p"), *(DO,) * 50))))
        self.assertEqual(counted(program, "main"), 8)
        self.assertEqual(keeps(program, "main")[0], "keeps")

    def test_nets(self):
        for size in (700, 950, 1000, 1001):
            program = (("a",), (("main", (("call", "p"),)),
                                ("p", (("call", "q"),) * (size // 50) + (DO,) * (size % 50)),
                                ("q", (DO,) * 50)))
            self.assertEqual(counted(program, "main"), 2 * size + 54 + size // 50)
            if counted(program, "main") > 2000:
                self.check_too_great(program)
            else:
                self.assertEqual(standing(program, "main")[:2], ("most", size))
        names = ("main", "p", "q", "r", "s", "t", "u", "v")
        program = (("a",), tuple((name, (("call", after),) * 24) for name,
                                 after in zip(names, names[1:])) + (("v", (DO,)),))
        self.check_too_great(program)
        self.assertEqual(standing(program, "v")[:2], ("most", 1))

    def test_not_one_ahead_of_too_great(self):
        names = ("main", "p", "q", "r", "s", "t", "u")
        ahead = tuple((name, (("call", after),) * 25) for name, after in zip(names, names[1:]))
        self.check_too_great((("a",), (*ahead, ("u", (DO,)))))
        self.assertEqual(self.not_one((("a",), (*ahead, ("u", (("loop", (DO,)),)))), "main"), "p")

    def test_errors_in_sequence(self):
        for function, rest in self.functions():
            check_name_errors(self, function, *rest)
        check_name_errors(self, is_endless, (((), ((),)), 0, 0))
        fit = with_places(300)
        self.assertEqual(keeps(fit, "main")[0], "keeps")
        # More than 300 places come ahead of several nets.
        great = (("a",), (("main", (("call", "p"),)), ("p", (("choose", ((DO,), ())),)),
                          ("q", with_places(301)[1][0][1])))
        for function, rest in self.functions():
            with self.assertRaises(TooGreat):
                function(great, "main", *rest)

    def test_names_of_parameters(self):
        check_names_of_parameters(self, keeps, program=LOCKS, name="main")
        check_names_of_parameters(self, standing, program=LOCKS, name="main")
        graph = keeps(LOCKS, "main")[1]
        self.assertIs(check_names_of_parameters(self, is_keeping, program=LOCKS, name="main", thing=graph), True)
        thing = standing(LOCKS, "main")[1:]
        self.assertIs(check_names_of_parameters(self, is_endless, program=LOCKS, name="main", thing=thing), True)


class GoingWrong(unittest.TestCase):
    def check(self, program, name="main"):
        """Something goes wrong, and its beginning is told."""
        word, beginning = keeps(program, name)
        self.assertEqual(word, "wrong")
        self.assertIs(is_wrong(program, name, beginning), True)
        with self.assertRaises(Wrong) as caught:
            standing(program, name)
        self.assertIs(is_wrong(program, name, caught.exception.beginning), True)
        return beginning

    def test_far_away(self):
        # Fifty deeds, and behind each loop one less: only the last way around finds none.
        self.check(main_only(*((DO,) * 56), ("loop", (UNDO,))))
        self.check(main_only(*((DO,) * 20), ("loop", (*((DO, UNDO) * 15), UNDO))))
        rows, legs = self.check(main_only(*((DO,) * 10), ("loop", (UNDO,))))
        self.assertEqual(legs, ((0,) * 32,))

    def test_by_many_calls(self):
        program = (("a",), (("main", (("call", "p"), ("call", "p"), ("loop", (UNDO,)))), ("p", (DO,) * 12)))
        self.assertLessEqual(counted(program, "main"), 60)
        self.check(program)
        program = (("a",), (("main", (("choose", ((DO, ("call", "main"), UNDO), ())), ("call", "p"), DO)),
                            ("p", (UNDO,))))
        self.check(program)

    def test_within_a_called_procedure_whose_net_is_kept(self):
        program = read_program("letters a b ; proc main { do a ; call p ; undo a ; } "
                               "proc p { do b ; undo a ; do a ; undo b ; }")
        beginning = self.check(program)
        self.assertEqual(len(beginning[1]), 2)
        program = read_program("letters a b ; proc main { call p ; } proc p { undo a ; do a ; }")
        self.assertEqual(residue(program, "p")[1], (("none",),))
        self.assertEqual(self.check(program), ((), ((), (0,))))

    def test_in_the_letters_of_a_passed_net(self):
        program = read_program("letters a b ; proc main { do a ; do b ; call p ; } proc p { call q ; call r ; } "
                               "proc q { undo b ; } proc r { undo b ; }")
        beginning = self.check(program)
        self.assertEqual(len(beginning[1]), 3)

    def test_loops_that_leave_something_else(self):
        for body in ((DO, ("loop", (UNDO, ("do", "b"))), UNDO),
                     (("loop", (DO, ("do", "b"))), ("loop", (("undo", "b"),))),
                     (DO, ("loop", (("do", "b"),)), ("choose", ((("undo", "b"),), (UNDO,))))):
            self.check((("a", "b"), (("main", body),)))

    def test_great_sums(self):
        for behind in ((("loop", (UNDO,)),), (UNDO,) * 45 + (("loop", (UNDO,)),)):
            program = doing((59, 59), behind)
            self.assertGreater(counted(program, "main"), 60)
            try:
                self.check(program)
            except TooGreat:
                pass

    def test_more_moves_are_needed_than_may_be(self):
        pairs = (DO, UNDO) * 29
        procedures = (("p", (("call", "q"),) * 30), ("q", (DO,) * 30))
        for around in ((*pairs, UNDO), (("ensure", pairs, (*pairs, UNDO)), DO, UNDO, DO, UNDO)):
            program = (("a",), (("main", (("call", "p"), ("loop", around))), *procedures))
            self.assertGreater(counted(program, "main"), 60)
            if len(around) > 10:
                # Sixty moves around for each of nine hundred deeds.
                self.assertGreater(sum(len(leg) for leg in self.check(program)[1]), 900 * 60)
                continue
            # There is none: each way around takes 121 moves or more and one deed.
            for function in (keeps, standing):
                with self.assertRaises(TooGreat):
                    function(program, "main")


class Endless(unittest.TestCase):
    def test_what_lies_between(self):
        program = main_only(("loop", (("choose", ((DO,), (UNDO,), ())),)))
        fork, choose = places(program)[0][1][1], places(program)[0][1][4]
        self.assertEqual((fork[0], choose[0]), ("fork", "fork"))
        for leg, moves, expected in (((0, 0, 0), 0, True), ((0, 1, 0), 0, True), ((0, 2), 0, False),
                                     ((0, 0, 0, 0, 1, 0), 0,
                                     False), ((0, 0, 0, 0, 1, 0), 3, True), ((0, 2, 0, 0, 0), 2, True),
                                     ((0, 0, 0, 0), 1, True),
                                     ((0, 0, 0), 3, False), ((0, 0, 0), 4, False), ((0, 0, 0), -1, False),
                                     ((0, 0, 0), True, False), ((0, 0, 0, 0), 0, False), ((0, 0, 0), 1, False),
                                     ((0, 0, 0), None, False), ((), 0, False), ((0, 0, 0), False, False)):
            self.assertIs(is_endless(program, "main", (((), (leg,)), 0, moves)), expected, (leg, moves))

    def test_legs(self):
        program = main_only(DO, ("call", "main"))
        one = ((), ((0,), ()))
        two = ((), ((0,), (0,), ()))
        for beginning, leg, moves, expected in ((one, 0, 0, True), (one, 0, 1, False), (one, 1, 0, False),
                                                (two, 0, 0, True),
                                                (two, 1, 0, True), (two, 2, 0, False), (two, 3, 0, False),
                                                (two, -1, 0, False), (two, True, 0, False), (two, 1, 1, False),
                                                (((), ((0,), (0,))), 0, 1, True), (((), ((0,), (0,))), 1, 0, False),
                                                (((), ((0,), (0,))), 1, 1, False), (((), ((0,), (0,))), 0, 0, False)):
            self.assertIs(is_endless(program, "main", (beginning, leg, moves)), expected, (beginning, leg, moves))
        program = (("a",), (("main", (("call", "p"),)), ("p", (("call", "main"),)), ("q", (DO, ("call", "q")))))
        self.assertIs(is_endless(program, "main", (((), ((), (), ())), 0, 0)), False)
        self.assertIs(is_endless(program, "q", (((), ((0,), ())), 0, 0)), True)

    def test_same_place_number_of_another_procedure(self):
        program = (("a",), (("main", (DO, ("call", "p"))), ("p", (DO, ("call", "p")))))
        self.assertIs(is_endless(program, "main", (((), ((0,), ())), 0, 0)), False)
        self.assertIs(is_endless(program, "main", (((), ((0,), (0,), ())), 0, 0)), False)
        self.assertIs(is_endless(program, "main", (((), ((0,), (0,), ())), 1, 0)), True)

    def test_whether_something_goes_wrong_is_not_asked(self):
        self.assertIs(is_endless(main_only(UNDO, ("call", "main")), "main", (((), ((0,), ())), 0, 0)), True)
        # Nor whether called procedures have one net, or how much there is to come to.
        program = main_only(("choose", ((("call", "main"),), (DO,), ())), DO, ("call", "main"))
        self.assertIs(is_endless(program, "main", (((), ((2, 0), ())), 0, 0)), True)

    def test_nets_that_are_empty(self):
        program = read_program("letters a b ; proc main { do a ; do b ; choose { undo b ; undo a ; call main ; } or { "
                               "} }")
        legs = ((0, 0, 0, 0, 0), ())
        self.assertIs(is_beginning(program, "main", ((), legs)), True)
        self.assertIs(is_endless(program, "main", (((), legs), 0, 0)), False)
        legs = ((0, 0, 0, 0, 0), (0, 0, 0, 0, 0), ())
        self.assertIs(is_endless(program, "main", (((), legs), 1, 0)), False)

    def test_any_object(self):
        thing = (((), ((0, 0), ())), 0, 0)
        self.assertIs(is_endless(LOCKS, "main", thing), True)
        for other in (*STRANGE, *NESTED, *as_lists(thing), thing[0], thing[:2], (*thing, 0)):
            self.assertIs(is_endless(LOCKS, "main", other), False)
        for part in (None, True, False, "a", -1, 7, [], 10 ** 30):
            for other in replaced(thing, part):
                self.assertIs(is_endless(LOCKS, "main", other), False, other)

    def test_many_moves(self):
        program = main_only(("loop", (("choose", ((DO,), (UNDO,))),)))
        leg = (0, 0, 0) * 33333
        self.assertIs(is_endless(program, "main", (((), (leg,)), 0, 0)), True)
        self.assertIs(is_endless(program, "main", (((), (leg,)), 0, 99996)), True)
        self.assertIs(is_endless(program, "main", (((), (leg,)), 0, 99997)), False)
        both = (0, 0, 0, 0, 1, 0) * 16666
        self.assertIs(is_endless(program, "main", (((), (both,)), 0, 0)), False)
        self.assertIs(is_endless(program, "main", (((), (both,)), 0, 3)), True)


if __name__ == "__main__":
    unittest.main()
