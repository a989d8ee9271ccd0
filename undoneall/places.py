"""Programs laid out as places, from one to the next of which runs go."""

from undoneall.checks import checked
from undoneall.errors import TooGreat

MOST_PLACES = 300
END = ("end",)


def places(program):
    """For each procedure of a checked program the place where it begins, and its places."""
    checked(program)
    return laid_out(program)


def laid_out(program):
    """What places tells of a program that is known to be a checked one."""
    letters, procedures = program
    names = [procedure[0] for procedure in procedures]
    found = []
    for procedure in procedures:
        layout = Layout(letters, names)
        begin = layout.body(procedure[1], 0, ())
        found.append((begin, tuple(layout.places)))
    return tuple(found)


class Layout:
    """The places of one procedure, in the order in which they are made."""

    def __init__(self, letters, names):
        self.letters = letters
        self.names = names
        self.places = [END]

    def make(self, place):
        """Make a place and return its number."""
        if len(self.places) == MOST_PLACES:
            raise TooGreat("a procedure has too many places")
        self.places.append(place)
        return len(self.places) - 1

    def body(self, body, told, seconds):
        """Lay a body ahead of the told place and return where it begins.

        seconds are the second bodies of the ensures in whose bodies it stands, the outermost first.
        """
        for statement in reversed(body):
            told = self.statement(statement, told, seconds)
        return told

    def statement(self, statement, told, seconds):
        """Lay a statement ahead of the told place and return where it begins."""
        word = statement[0]
        if word == "do":
            return self.make(("letter", self.letters.index(statement[1]) + 1, told))
        if word == "undo":
            return self.make(("letter", -self.letters.index(statement[1]) - 1, told))
        if word == "call":
            return self.make(("call", self.names.index(statement[1]), told))
        if word == "choose":
            return self.make(("fork", tuple([self.body(inner, told, seconds) for inner in statement[1]])))
        if word == "loop":
            return self.loop(statement[1], told, seconds)
        if word == "return":
            return self.leave(seconds)
        return self.body(statement[1], self.body(statement[2], told, ()), (*seconds, statement[2]))

    def loop(self, inner, told, seconds):
        """Lay a loop, whose body comes back to its fork."""
        fork = self.make(None)
        self.places[fork] = ("fork", (self.body(inner, fork, seconds), told))
        return fork

    def leave(self, seconds):
        """Lay a return: the second bodies that are still to be done, the outermost one last in a run."""
        begin = 0
        for second in seconds:
            begin = self.body(second, begin, ())
        return begin
