"""Beginnings of runs: which objects are some, and what stands behind them."""

from undoneall.kinds import is_row, is_within
from undoneall.leaving import row_nets
from undoneall.nets import EMPTY, LAST
from undoneall.rows import MOST_ROWS, are_rows
from undoneall.ways import start_of

MOST_LEGS = 10000
MOST_MOVES = 100000


class Beginning:
    """The beginning of a run of a procedure; right tells whether thing is one, the rest is told of a right one.

    courses has for each leg its procedure and its places, from where it begins on; deeds has for each leg what each
    move does: a letter, the index of a row in brackets, or None.
    """

    def __init__(self, layout, procedure, thing):
        self.layout = layout
        self.rows = ()
        self.courses = []
        self.deeds = []
        self.right = _has_form(layout, thing)
        if self.right:
            self.rows, legs = thing
            self.right = self.follow(procedure, legs)

    def follow(self, procedure, legs):
        """Go through the places of the legs, and return whether there is a way."""
        for leg in legs:
            if self.courses:
                kind = self.last_kind()
                if kind[0] != "call":
                    return False
                procedure = kind[1]
            self.courses.append((procedure, [self.layout[procedure][0]]))
            self.deeds.append([])
            for move in leg:
                if not self.move(move):
                    return False
        return True

    def last_kind(self):
        """The place that is come to last."""
        procedure, course = self.courses[-1]
        return self.layout[procedure][1][course[-1]]

    def move(self, move):
        """Go one move further in the last leg, and return whether that can be."""
        kind = self.last_kind()
        if kind[0] == "letter" and is_within(move, 0, 0):
            return self.put(kind[2], kind[1])
        if kind[0] == "fork" and is_within(move, 0, len(kind[1]) - 1):
            return self.put(kind[1][move], None)
        if kind[0] == "call" and is_within(move, 0, len(self.rows) - 1):
            return self.rows[move][:2] == start_of(self.layout, kind[1]) and self.put(kind[2], (move,))
        return False

    def put(self, place, deed):
        """Put a place and what is done on the way to it behind the others."""
        self.courses[-1][1].append(place)
        self.deeds[-1].append(deed)
        return True

    def place_behind(self, leg, moves):
        """The place (procedure's index, place) behind the first moves of a leg."""
        procedure, course = self.courses[leg]
        return (procedure, course[moves])

    def deeds_from(self, leg, moves):
        """What is done by the moves from there on."""
        found = self.deeds[leg][moves:]
        for deeds in self.deeds[leg + 1:]:
            found.extend(deeds)
        return [deed for deed in found if deed is not None]

    def net(self, nets, deeds):
        """The net of what is done by these deeds."""
        wanted = sorted({deed[0] for deed in deeds if isinstance(deed, tuple)})
        found = row_nets(self.layout, nets, self.rows, wanted)
        return nets.product_of_all([found[deed[0]] if isinstance(deed, tuple) else nets.letter(deed) for deed in deeds])

    def goes_wrong(self, nets):
        """Whether the last move undoes another deed than the last one, while deeds alone stood ahead of it."""
        last = self.deeds[-1][-1] if self.deeds[-1] else None
        if not isinstance(last, int) or last > 0:
            return False
        net = self.net(nets, self.deeds_from(0, 0)[:-1])
        if net == EMPTY:
            return True
        if any(rule[0] == "letter" and rule[1] < 0 for rule in nets.text_of(net)):
            return False
        return nets.ends[net][LAST] != -last


def _has_form(layout, thing):
    """Whether thing is a pair of right rows and of legs, as many as may be."""
    if not is_row(thing, 2, 2):
        return False
    rows, legs = thing
    if not is_row(rows, 0, MOST_ROWS) or not is_row(legs, 1, MOST_LEGS):
        return False
    if not all(is_row(leg, 0, MOST_MOVES) for leg in legs) or sum([len(leg) for leg in legs]) > MOST_MOVES:
        return False
    return rows == () or are_rows(layout, rows)
