"""What all functions that take a program have in common, for several tests: their errors, in sequence."""

from undoneall.errors import BadName, BadProgram, NotChecked, TooGreat
from tests.samples import STRANGE, main_only, with_places

NO_PROGRAMS = (*STRANGE, (("a",), ()), main_only(("do",)), [("a",), (("main", ()),)])
GREAT = with_places(301)
# The procedure that has too many places is called by none.
GREAT_BESIDE = (("a",), (("main", ()), ("p", GREAT[1][0][1])))
NOT_CHECKED = (((("a", "a"), (("main", ()),)), ("letter", "a")), (main_only(("do", "b")), ("letter", "main")),
               (main_only(("call", "p")), ("call", "main")), ((("a", "a"), GREAT[1]), ("letter", "a")),
               (main_only(("ensure", (), (("return",),))), ("return", "main")),
               ((("a",), (("main", ()), ("p", ()), ("p", ()))), ("double", "p")))


def check_program_errors(case, function, *rest):
    """BadProgram and NotChecked of a function whose first parameter is program, whatever stands behind it."""
    for thing in NO_PROGRAMS:
        with case.assertRaises(BadProgram):
            function(thing, *rest)
    for program, what in NOT_CHECKED:
        with case.assertRaises(NotChecked) as caught:
            function(program, *rest)
        case.assertEqual(caught.exception.what, what)


def check_name_errors(case, function, *rest):
    """The errors of a function of a program and a name, in sequence, whatever stands behind these."""
    for name in ("main", "p", None):
        check_program_errors(case, function, name, *rest)
    for name in (*STRANGE, "p", "", "Main", "main ", ("main",)):
        if name == "main":
            continue
        for program in (main_only(), GREAT, GREAT_BESIDE):
            if name == "p" and program == GREAT_BESIDE:
                continue
            with case.assertRaises(BadName):
                function(program, name, *rest)
    for program, name in ((GREAT, "main"), (GREAT_BESIDE, "main"), (GREAT_BESIDE, "p")):
        with case.assertRaises(TooGreat):
            function(program, name, *rest)


def check_names_of_parameters(case, function, **arguments):
    """By position and by names, twice: the same is returned, and the arguments stay as they are."""
    before = repr(arguments)
    expected = function(*arguments.values())
    case.assertEqual(function(**arguments), expected)
    case.assertEqual(function(**dict(reversed(list(arguments.items())))), expected)
    case.assertEqual(repr(arguments), before)
    return expected
