"""What is wrong with a program besides its form: names that are double or missing, returns that are not let."""

from undoneall.errors import BadName, NotChecked
from undoneall.programs import bodies_of, want_program


def check(program):
    """What is wrong first with a program, as a pair of a word and a name, None if nothing is."""
    want_program(program)
    letters, procedures = program
    names = [procedure[0] for procedure in procedures]
    double = _first_double(letters)
    if double is not None:
        return ("letter", double)
    double = _first_double(names)
    if double is not None:
        return ("double", double)
    for name, body in procedures:
        word = _body_fault(body, letters, names)
        if word is not None:
            return (word, name)
    return None


def _first_double(names):
    """The first name that one ahead of it is equal to, None if there is none."""
    for at, name in enumerate(names):
        if name in names[:at]:
            return name
    return None


def _body_fault(body, letters, names):
    """The word for what is wrong first in a procedure's body, None if nothing is."""
    found = []
    _find_statements(body, False, found)
    for statement, is_second in found:
        word = statement[0]
        if word in ("do", "undo") and statement[1] not in letters:
            return "letter"
        if word == "call" and statement[1] not in names:
            return "call"
        if word == "return" and is_second:
            return "return"
    return None


def _find_statements(body, is_second, found):
    """Put each statement of a body, as in the text, behind found, and whether it stands in a second body."""
    for statement in body:
        found.append((statement, is_second))
        for at, inner in enumerate(bodies_of(statement)):
            _find_statements(inner, is_second or (statement[0] == "ensure" and at == 1), found)


def checked(program):
    """None for a program with which nothing is wrong, else NotChecked is raised."""
    what = check(program)
    if what is not None:
        raise NotChecked(what)


def want_name(program, name):
    """The index of the procedure with a name; BadName if there is none."""
    names = [procedure[0] for procedure in program[1]]
    if not isinstance(name, str) or name not in names:
        raise BadName("this is no name of a procedure")
    return names.index(name)
