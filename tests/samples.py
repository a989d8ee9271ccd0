"""Objects that several tests use."""

KEPT_WORDS = ("call", "choose", "do", "ensure", "finally", "letters", "loop", "or", "proc", "return", "undo")
RETURN = ("return",)
DO = ("do", "a")
UNDO = ("undo", "a")

# Objects that are no tuple, no integer, or neither, to stand in the place of any part.
STRANGE = (None, True, False, 0, 1, -1, 2, 10 ** 50, "", "a", "main", "do", b"a", [], ["a"], ["do", "a"], {}, {"a": 1},
           {0: "do"}, set(), {"a"}, (), ((),), ("a",), (None,), (True,), ([],), object(), len, int, range(2))


def main_only(*body):
    """A program of the letter a and the procedure main with this body."""
    return (("a",), (("main", tuple(body)),))


def with_places(many):
    """A program of one procedure with so many places, most of them of a second body that ten returns do."""
    second = (DO,) * ((many - 1) // 11)
    return main_only(("ensure", (RETURN,) * 10, second), *((UNDO,) * ((many - 1) % 11)))


def chain(many, last=DO):
    """A chain of many statements, each in the body of the one ahead, the last one told."""
    statement = last
    for _ in range(many - 1):
        statement = ("loop", (statement,))
    return statement


def many_statements(count):
    """A body of so many statements together, in loops of up to fifty."""
    body = []
    while count > 0:
        inner = min(count - 1, 49)
        body.append(("loop", (DO,) * inner))
        count -= inner + 1
    return tuple(body)


def nested(depth, make, inmost):
    """An object nested so deep."""
    thing = inmost
    for _ in range(depth):
        thing = make(thing)
    return thing


# With what the tests put around these, up to eighty levels.
NESTED = tuple(nested(depth, make, inmost) for depth in (2, 3, 13, 40, 76) for inmost in ((), "a", 0, None)
               for make in (lambda x: (x,), lambda x: [x], lambda x: (x, x), lambda x: ("loop", (x,)),
                            lambda x: (("a",), (("main", (x,)),)), lambda x: {"a": x}, lambda x: ("ensure", x, x)))


def replaced(thing, part):
    """Every object that comes of a tuple by putting part in the place of one part of it, at any depth."""
    yield part
    if isinstance(thing, tuple):
        for at, inner in enumerate(thing):
            for other in replaced(inner, part):
                yield thing[:at] + (other,) + thing[at + 1:]


def as_lists(thing):
    """Every object that comes of a tuple by making one tuple of it, at any depth, a list."""
    if isinstance(thing, tuple):
        yield list(thing)
        for at, inner in enumerate(thing):
            for other in as_lists(inner):
                yield thing[:at] + (other,) + thing[at + 1:]
