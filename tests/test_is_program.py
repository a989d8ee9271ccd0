"""Promise [4]: which objects are programs."""

import unittest

from undoneall.errors import BadProgram
from undoneall.checks import check, checked
from undoneall.programs import is_program, write_program
from tests.samples import DO, KEPT_WORDS, NESTED, RETURN, STRANGE, as_lists, chain, main_only, many_statements, replaced

RICH = (("a", "b"), (
    ("main", (("do", "a"), ("choose", ((("call", "other"),), (), (("undo", "b"), RETURN))))),
    ("other", (("loop", (("ensure", (RETURN,), (("undo", "a"),)),)), ("choose", ((), ())))),
))


class Judged(unittest.TestCase):
    def judge(self, thing, expected):
        """is_program says so, and the functions that want a program go by it."""
        self.assertIs(is_program(thing), expected)
        self.assertIs(is_program(thing=thing), expected)
        for function in (write_program, check, checked):
            if expected:
                try:
                    function(program=thing)
                except BadProgram:
                    self.fail("BadProgram for a program")
                except ValueError:
                    self.assertIs(function, checked)
            else:
                with self.assertRaises(BadProgram):
                    function(thing)
                with self.assertRaises(BadProgram):
                    function(program=thing)


class Names(Judged):
    GOOD = ("a", "z", "a0", "z9", "abcdefghij", "a123456789", "xdo", "doo", "letter", "procs", "end", "if", "fork")
    BAD = ("", "abcdefghijk", "a" * 1000, "0", "1a", "9abc", "A", "aB", "a_b", "_a", "a b", " a", "a ", "a\n", "a-",
           "{", ";", "a;", "do ", *KEPT_WORDS)

    def test_names_that_are_let(self):
        for name in self.GOOD:
            self.judge(((name,), (("main", ()),)), True)
            self.judge((("a",), ((name, ()),)), True)
            for word in ("do", "undo", "call"):
                self.judge(main_only((word, name)), True)

    def test_names_that_are_not_let(self):
        for name in self.BAD:
            self.judge(((name,), (("main", ()),)), False)
            self.judge((("a", name), (("main", ()),)), False)
            self.judge((("a",), ((name, ()),)), False)
            self.judge((("a",), (("main", ()), (name, ()))), False)
            for word in ("do", "undo", "call"):
                self.judge(main_only((word, name)), False)

    def test_names_need_not_be_there_nor_be_unlike(self):
        self.judge(main_only(("do", "b"), ("undo", "c"), ("call", "nobody")), True)
        self.judge((("a", "a"), (("main", ()), ("main", ()))), True)
        self.judge((("a",), (("a", (("call", "a"),)),)), True)


class Bounds(Judged):
    def test_letters(self):
        for many in (0, 1, 2, 20, 21, 22):
            letters = tuple(f"x{k}" for k in range(many))
            self.judge((letters, (("main", ()),)), 1 <= many <= 20)
        self.judge((("a",) * 20, (("main", ()),)), True)
        self.judge((("a",) * 21, (("main", ()),)), False)

    def test_procedures(self):
        for many in (0, 1, 2, 8, 9, 10):
            self.judge((("a",), tuple((f"p{k}", ()) for k in range(many))), 1 <= many <= 8)

    def test_body_at_any_depth(self):
        for many in (0, 1, 60, 61):
            body = (DO,) * many
            for statement in (("loop", body), ("ensure", body, ()), ("ensure", (), body), ("choose", (body, ())),
                              ("choose", ((), (), (), (), (), body))):
                self.judge(main_only(statement), many <= 60)
                self.judge(main_only(chain(5, statement)), many <= 60)
            self.judge(main_only(*body), many <= 60)
            self.judge((("a",), (("main", ()), ("other", body))), many <= 60)

    def test_statements_together(self):
        for many in (1, 60, 199, 200, 201, 202, 260):
            self.judge(main_only(*many_statements(many)), many <= 200)
            half = many // 2
            parts = (("main", many_statements(half)), ("other", many_statements(many - half)))
            self.judge((("a",), parts), many <= 200)
        full = (DO,) * 60
        self.judge((("a",), (("a", full), ("b", full), ("c", full), ("d", full[:20]))), True)
        self.judge((("a",), (("a", full), ("b", full), ("c", full), ("d", full[:21]))), False)
        self.judge(main_only(("choose", (full, full, full, (DO,) * 19))), True)
        self.judge(main_only(("choose", (full, full, full, (DO,) * 20))), False)
        self.judge(main_only(("ensure", full, full), *full, *()), False)
        self.judge(main_only(("ensure", full, full), *full[1:]), True)

    def test_each_occurrence_counts(self):
        body = (DO,) * 3
        statement = ("choose", (body, body))
        self.judge(main_only(*(statement,) * 28), True)
        self.judge(main_only(*(statement,) * 29), False)
        deep = ()
        for _ in range(12):
            deep = (("choose", (deep,) * 6),) * 60
        self.judge(main_only(*deep), False)

    def test_bodies_of_a_choose(self):
        for many in (0, 1, 2, 3, 6, 7, 8):
            self.judge(main_only(("choose", ((),) * many)), 2 <= many <= 6)
            self.judge(main_only(("choose", ((DO,),) * many)), 2 <= many <= 6)
            self.judge(main_only(chain(4, ("choose", ((),) * many))), 2 <= many <= 6)

    def test_chains(self):
        lasts = (DO, RETURN, ("call", "main"), ("loop", ()), ("choose", ((), ())), ("ensure", (), ()))
        for last in lasts:
            for many in (1, 2, 11, 12, 13, 14, 20):
                self.judge(main_only(chain(many, last)), many <= 12)
                self.judge((("a",), (("main", ()), ("other", (DO, chain(many, last))))), many <= 12)

    def test_chains_through_each_kind_of_body(self):
        for wrap in (lambda x: ("loop", (x,)), lambda x: ("loop", (DO, x)), lambda x: ("choose", ((), (x,))),
                     lambda x: ("choose", ((x,), ())), lambda x: ("ensure", (x,), ()), lambda x: ("ensure", (), (x,))):
            statement = DO
            for many in range(1, 20):
                self.judge(main_only(statement), many <= 12)
                statement = wrap(statement)


class Forms(Judged):
    def test_parts_too_many_or_too_few(self):
        good = (("do", "a"), ("undo", "a"), ("call", "a"), ("choose", ((), ())), ("loop", ()), RETURN,
                ("ensure", (), ()))
        for statement in good:
            self.judge(main_only(statement), True)
            self.judge(main_only(statement[:-1]), False)
            for more in ("a", (), None, ((), ())):
                self.judge(main_only((*statement, more)), False)
                self.judge(main_only((*statement, more, more)), False)
        self.judge(main_only(()), False)
        self.judge(main_only(("choose", (), ())), False)
        self.judge(main_only(("ensure", ((), ()))), False)
        self.judge(main_only(("loop", ((), ()))), False)

    def test_words_that_begin_no_statement(self):
        for word in ("finally", "letters", "or", "proc", "Do", "DO", "", "a", "end", "fork", "do ", None, 0, True, ()):
            for rest in ((), ("a",), ((),), ((), ()), (((), ()),)):
                self.judge(main_only((word, *rest)), False)

    def test_pairs(self):
        self.judge((("a",),), False)
        self.judge((("a",), (("main", ()),), ()), False)
        self.judge((("a",), (("main",),)), False)
        self.judge((("a",), (("main", (), ()),)), False)
        self.judge((("a",), ("main", ())), False)
        self.judge((("a",), (((), "main"),)), False)
        self.judge(((("main", ()),), ("a",)), False)
        self.judge(("a", (("main", ()),)), False)

    def test_lists_in_the_place_of_tuples(self):
        self.judge(RICH, True)
        count = 0
        for thing in as_lists(RICH):
            self.judge(thing, False)
            count += 1
        self.assertGreater(count, 25)

    def test_strange_objects_in_the_place_of_any_part(self):
        for part in (None, True, False, 0, 1, 5, -3, 10 ** 40, "", "0a", "A", "or", {}, {"a": 1}, {"do": "a"}, [], [()],
                     b"a", set(), object(), len, int, range(0), range(2)):
            for thing in replaced(RICH, part):
                self.judge(thing, False)

    def test_strange_objects(self):
        for thing in STRANGE:
            self.judge(thing, False)
            self.judge((thing, thing), False)
            self.judge((("a",), (("main", thing),)), thing == ())

    def test_nested_objects_raise_nothing(self):
        for thing in NESTED:
            for whole in (thing, (thing, thing), (("a",), thing), (("a",), (("main", (thing,)),)),
                          main_only(("ensure", (thing,), ())), main_only(("choose", ((thing,), ())))):
                self.assertIs(is_program(whole), False)
        self.assertIs(is_program(main_only(chain(30))), False)
        self.assertIs(is_program(main_only(chain(12, ("loop", ())))), True)


class Kept(unittest.TestCase):
    def test_equal_calls_give_equal_results(self):
        self.assertEqual([is_program(RICH) for _ in range(3)], [True] * 3)
        wrong = [("a",), [("main", [])]]
        self.assertIs(is_program(wrong), False)
        self.assertEqual(wrong, [("a",), [("main", [])]])
