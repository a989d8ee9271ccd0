"""What beginnings of runs may come to, move by move: as numbered states, and the steps from one to another."""

from undoneall.checks import checked, want_name
from undoneall.errors import NotOne, TooGreat
from undoneall.leaving import Leaving
from undoneall.least import least_rows_of
from undoneall.nets import Nets
from undoneall.places import laid_out
from undoneall.straight import rule_sizes, written_out
from undoneall.ways import start_of

MOST_LETTERS = 1000
MOST_COUNTED = 2000


def wanted_moves(program, name):
    """The moves of beginnings of a procedure of a checked program; NotOne and TooGreat for more than can be told."""
    checked(program)
    procedure = want_name(program, name)
    layout = laid_out(program)
    leaving = Leaving(layout, Nets())
    places = _come_to(leaving, procedure)
    calls = [layout[at[0]][1][at[1]][1] for at in places if layout[at[0]][1][at[1]][0] == "call"]
    for called in sorted(set(calls)):
        if leaving.uneven(called) is not None:
            raise NotOne(program[1][called][0])
    sizes = [leaving.nets.sizes[leaving.net(called)] for called in calls if leaving.can_end(called)]
    if max(sizes, default=0) > MOST_LETTERS or len(places) + sum(sizes) > MOST_COUNTED:
        raise TooGreat("there is too much to come to")
    return Moves(leaving, procedure, places)


def _come_to(leaving, procedure):
    """The places that beginnings of a procedure come to, ascending."""
    start = start_of(leaving.layout, procedure)
    known = {start: True}
    waiting = [start]
    while waiting:
        at = waiting.pop()
        for part in _moved_to(leaving, at):
            if part not in known:
                known[part] = True
                waiting.append(part)
    return sorted(known)


def _moved_to(leaving, at):
    """The places that a beginning comes to from a place, by one move or by going into a call."""
    kind = leaving.layout[at[0]][1][at[1]]
    if kind[0] == "fork":
        return [(at[0], part) for part in kind[1]]
    if kind[0] == "letter":
        return [(at[0], kind[2])]
    if kind[0] == "call":
        behind = [(at[0], kind[2])] if leaving.can_end(kind[1]) else []
        return [start_of(leaving.layout, kind[1]), *behind]
    return []


class Moves:
    """The states of beginnings and the steps between them.

    0 is the state ahead of everything; then each place has one; then come those within the nets of called procedures.
    numbers tells the state of each place, chains the states of the net of each call that is passed. steps has for each
    state steps (x, to, how): x is the letter that is done, or 0; how is ("move", k), ("enter", procedure),
    ("pass", procedure), or None within a net.
    """

    def __init__(self, leaving, procedure, places):
        self.leaving = leaving
        self.places = places
        self.numbers = {at: 1 + number for number, at in enumerate(places)}
        self.begin = self.numbers[start_of(leaving.layout, procedure)]
        self.chains = {}
        self.words = {}
        self.steps = [[] for _ in range(1 + len(places))]
        for at in places:
            self.put_steps(at)

    def put_steps(self, at):
        """Put the steps from a place to where they belong."""
        kind = self.leaving.layout[at[0]][1][at[1]]
        steps = self.steps[self.numbers[at]]
        if kind[0] == "letter":
            steps.append((kind[1], self.numbers[(at[0], kind[2])], ("move", 0)))
        elif kind[0] == "fork":
            steps.extend([(0, self.numbers[(at[0], part)], ("move", k)) for k, part in enumerate(kind[1])])
        elif kind[0] == "call":
            steps.append((0, self.numbers[start_of(self.leaving.layout, kind[1])], ("enter", kind[1])))
            if self.leaving.can_end(kind[1]):
                self.put_chain(at, kind)

    def put_chain(self, at, kind):
        """Put the states and steps of the net of a call that is passed behind the others."""
        chain = [self.numbers[at]]
        for x in self.word(kind[1]):
            self.steps[chain[-1]].append((x, len(self.steps), None))
            chain.append(len(self.steps))
            self.steps.append([])
        self.steps[chain[-1]].append((0, self.numbers[(at[0], kind[2])], ("pass", kind[1])))
        self.chains[at] = tuple(chain)

    def word(self, procedure):
        """The letters of the net of a called procedure."""
        if procedure not in self.words:
            rules = self.leaving.nets.text_of(self.leaving.net(procedure))
            self.words[procedure] = written_out(rules, rule_sizes(rules))
        return self.words[procedure]

    def told_beginning(self, line):
        """The beginning that is told by the hows of its steps."""
        layout = self.leaving.layout
        starts = [start_of(layout, called) for called in sorted({how[1] for how in line if how[0] == "pass"})]
        rows, numbers = least_rows_of(layout, self.leaving.lengths, starts)
        legs = [[]]
        for word, number in line:
            if word == "enter":
                legs.append([])
            else:
                legs[-1].append(numbers[start_of(layout, number)] if word == "pass" else number)
        return (tuple(rows), tuple([tuple(leg) for leg in legs]))
