"""Programs laid out as places, from one to the next of which runs go."""

from undoneall.checks import checked
from undoneall.errors import TooGreat

MOST_PLACES = 300
END = ("end",)


def places(program):
    """For each procedure of a checked program the place where it begins, and its places."""
    checked(program)
    return laid_out(program)


def laid_out(program):
    """What places tells of a program that is known to be a checked one."""
    return tuple([(layout.begin, tuple(layout.places)) for layout in layouts(program)])


def layouts(program):
    """The layouts of the procedures of a program that is known to be a checked one."""
    letters, procedures = program
    names = [procedure[0] for procedure in procedures]
    return [Layout(letters, names, procedure[1]) for procedure in procedures]


class Layout:
    """The places of one procedure, in the order in which they are made, and where it begins.

    forks tells for the path of each choose and loop (as steps tell paths) the forks that were made for it.
    """

    def __init__(self, letters, names, body):
        self.letters = letters
        self.names = names
        self.places = [END]
        self.forks = {}
        self.begin = self.lay(body, 0, (), ())

    def make(self, place):
        """Make a place and return its number."""
        if len(self.places) == MOST_PLACES:
            raise TooGreat("a procedure has too many places")
        self.places.append(place)
        return len(self.places) - 1

    def make_fork(self, nexts, path):
        """Make a fork for the statement to which a path leads, and return its number."""
        fork = self.make(("fork", nexts))
        self.forks.setdefault(path, []).append(fork)
        return fork

    def lay(self, body, told, seconds, path):
        """Lay a body ahead of the told place and return where it begins.

        seconds are the second bodies of the ensures in whose bodies it stands, the outermost first, with their paths.
        """
        for at in reversed(range(len(body))):
            told = self.statement(body[at], told, seconds, (*path, at))
        return told

    def statement(self, statement, told, seconds, path):
        """Lay a statement ahead of the told place and return where it begins."""
        word = statement[0]
        if word == "do":
            return self.make(("letter", self.letters.index(statement[1]) + 1, told))
        if word == "undo":
            return self.make(("letter", -self.letters.index(statement[1]) - 1, told))
        if word == "call":
            return self.make(("call", self.names.index(statement[1]), told))
        if word == "choose":
            nexts = [self.lay(body, told, seconds, (*path, at)) for at, body in enumerate(statement[1])]
            return self.make_fork(tuple(nexts), path)
        if word == "loop":
            return self.loop(statement[1], told, seconds, path)
        if word == "return":
            return self.leave(seconds)
        behind = self.lay(statement[2], told, (), (*path, 1))
        return self.lay(statement[1], behind, (*seconds, (statement[2], (*path, 1))), (*path, 0))

    def loop(self, inner, told, seconds, path):
        """Lay a loop, whose body comes back to its fork."""
        fork = self.make_fork((), path)
        self.places[fork] = ("fork", (self.lay(inner, fork, seconds, (*path, 0)), told))
        return fork

    def leave(self, seconds):
        """Lay a return: the second bodies that are still to be done, the outermost one last in a run."""
        begin = 0
        for second, path in seconds:
            begin = self.lay(second, begin, (), path)
        return begin
