"""Programs: which objects are programs by their form, and the texts of programs."""

from undoneall.errors import BadProgram, BadText
from undoneall.kinds import is_row
from undoneall.names import is_name
from undoneall.reader import Reader

MOST_LETTERS = 20
MOST_PROCEDURES = 8
LEAST_BODIES = 2
MOST_BODIES = 6
MOST_IN_BODY = 60
MOST_STATEMENTS = 200
LONGEST_CHAIN = 12


def is_program(thing):
    """Whether thing is a program, judged by its form alone."""
    if not is_row(thing, 2, 2):
        return False
    letters, procedures = thing
    if not is_row(letters, 1, MOST_LETTERS) or not is_row(procedures, 1, MOST_PROCEDURES):
        return False
    for procedure in procedures:
        if not is_row(procedure, 2, 2) or not is_name(procedure[0]):
            return False
    return all(is_name(letter) for letter in letters) and _are_bodies([procedure[1] for procedure in procedures])


def _are_bodies(bodies):
    """Whether these are bodies within all bounds, together."""
    count = 0
    waiting = [(body, 1) for body in bodies]
    while waiting:
        body, depth = waiting.pop()
        if not is_row(body, 0, MOST_IN_BODY):
            return False
        # Counted on the way, so that parts that stand at many places end the walk early.
        count += len(body)
        if count > MOST_STATEMENTS or (body and depth > LONGEST_CHAIN):
            return False
        for statement in body:
            if not _is_statement(statement):
                return False
            for inner in bodies_of(statement):
                waiting.append((inner, depth + 1))
    return True


def _is_statement(thing):
    """Whether thing is a statement, but for what its bodies are."""
    if not is_row(thing, 1, 3) or not isinstance(thing[0], str):
        return False
    word = thing[0]
    if word in ("do", "undo", "call"):
        return len(thing) == 2 and is_name(thing[1])
    if word == "choose":
        return len(thing) == 2 and is_row(thing[1], LEAST_BODIES, MOST_BODIES)
    if word == "loop":
        return len(thing) == 2
    if word == "ensure":
        return len(thing) == 3
    return word == "return" and len(thing) == 1


def bodies_of(statement):
    """The bodies of a statement, as they stand in the text."""
    if statement[0] == "choose":
        return statement[1]
    if statement[0] in ("loop", "ensure"):
        return statement[1:]
    return ()


def want_program(program):
    """Raise BadProgram unless program is one."""
    if not is_program(program):
        raise BadProgram("this is no program")


def write_program(program):
    """The text of a program, with one blank between two words."""
    want_program(program)
    letters, procedures = program
    words = ["letters", *letters, ";"]
    for name, body in procedures:
        words.extend(["proc", name])
        _write_body(body, words)
    return " ".join(words)


def _write_body(body, words):
    """Put the words of a body behind the words."""
    words.append("{")
    for statement in body:
        _write_statement(statement, words)
    words.append("}")


def _write_statement(statement, words):
    """Put the words of a statement behind the words."""
    words.append(statement[0])
    bodies = bodies_of(statement)
    if not bodies:
        words.extend([*statement[1:], ";"])
    for at, body in enumerate(bodies):
        if at > 0:
            words.append("or" if statement[0] == "choose" else "finally")
        _write_body(body, words)


def read_program(text):
    """The program of which text is a text; BadText tells where any other object goes wrong."""
    if not isinstance(text, str):
        raise BadText(0)
    program = Reader(text).whole()
    if not is_program(program):
        raise BadText(len(text))
    return program
