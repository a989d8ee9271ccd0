"""Steps that change one statement of a program, by what stands there alone."""

from undoneall.checks import check
from undoneall.kinds import is_row, is_within
from undoneall.programs import bodies_of, is_program

LONGEST_PATH = 23


def place_of(body, path):
    """The body in which the statement stands to which a path leads from a procedure's body, and its index; or None."""
    if not is_row(path, 1, LONGEST_PATH):
        return None
    for at in range(0, len(path), 2):
        if not is_within(path[at], 0, len(body) - 1):
            return None
        if at + 1 == len(path):
            return (body, path[at])
        bodies = bodies_of(body[path[at]])
        if not is_within(path[at + 1], 0, len(bodies) - 1):
            return None
        body = bodies[path[at + 1]]
    return None


def all_statements(program):
    """Each statement of a program, as in its text, with the name of its procedure and its path ahead."""
    found = []
    for name, body in program[1]:
        _find_statements(name, body, (), found)
    return found


def _find_statements(name, body, ahead, found):
    """Put the statements of a body with this path ahead behind those found."""
    for at, statement in enumerate(body):
        path = (*ahead, at)
        found.append((name, path, statement))
        for number, inner in enumerate(bodies_of(statement)):
            _find_statements(name, inner, (*path, number), found)


def has_return(body):
    """Whether a return stands in a body, at any depth."""
    for statement in body:
        if statement[0] == "return" or any(has_return(inner) for inner in bodies_of(statement)):
            return True
    return False


def with_body(program, procedure, body):
    """The program with another body of the procedure with an index; None if it is no checked program."""
    letters, procedures = program
    changed = (procedures[procedure][0], body)
    other = (letters, (*procedures[:procedure], changed, *procedures[procedure + 1:]))
    return other if is_program(other) and check(other) is None else None


def spliced(body, path, many, statements):
    """The body with statements in the place of so many from the one on to which a path leads."""
    at = path[0]
    if len(path) == 1:
        return (*body[:at], *statements, *body[at + many:])
    statement = body[at]
    bodies = bodies_of(statement)
    inner = spliced(bodies[path[1]], path[2:], many, statements)
    bodies = (*bodies[:path[1]], inner, *bodies[path[1] + 1:])
    whole = ("choose", bodies) if statement[0] == "choose" else (statement[0], *bodies)
    return (*body[:at], whole, *body[at + 1:])


def _cancel(program, body, at):
    """A do and an undo of one letter, side by side: both fall away."""
    pair = body[at:at + 2]
    if sorted([statement[0] for statement in pair]) != ["do", "undo"] or pair[0][1] != pair[1][1]:
        return None
    return (2, ())


def _front(program, body, at):
    """A choose whose bodies begin alike: what they begin with comes to stand ahead of it."""
    bodies = bodies_of(body[at])
    if body[at][0] != "choose" or not all(inner and inner[0] == bodies[0][0] for inner in bodies):
        return None
    first = bodies[0][0]
    return None if first[0] == "return" else (1, (first, ("choose", tuple([inner[1:] for inner in bodies]))))


def _rear(program, body, at):
    """A choose whose bodies end alike: what they end with comes to stand behind it."""
    bodies = bodies_of(body[at])
    if body[at][0] != "choose" or not all(inner and inner[-1] == bodies[0][-1] for inner in bodies):
        return None
    last = bodies[0][-1]
    return None if last[0] == "return" else (1, (("choose", tuple([inner[:-1] for inner in bodies])), last))


def _unroll(program, body, at):
    """A loop becomes a choose of its body with the loop behind it and nothing."""
    loop = body[at]
    return (1, (("choose", ((*loop[1], loop), ())),)) if loop[0] == "loop" else None


def _inline(program, body, at):
    """A call of a procedure that does not return early becomes its body."""
    if body[at][0] != "call":
        return None
    called = dict(program[1])[body[at][1]]
    return None if has_return(called) else (1, called)


EDITS = {"cancel": _cancel, "front": _front, "rear": _rear, "unroll": _unroll, "inline": _inline}


def edited(program, word, procedure, path):
    """The program behind a step with this word on the procedure with an index; None if it does not fit."""
    body = program[1][procedure][1]
    place = place_of(body, path)
    if place is None:
        return None
    edit = EDITS[word]
    change = edit(program, place[0], place[1])
    if change is None:
        return None
    return with_body(program, procedure, spliced(body, path, change[0], change[1]))
