"""What ended runs leave: the nets of short ones, and the forks from which others leave something else."""

from undoneall.least import least_choice, least_lengths
from undoneall.nets import EMPTY
from undoneall.rows import next_places
from undoneall.ways import start_of


def net_ahead(nets, kind, parts):
    """The net of a run from a place of this kind, parts being the nets of the runs of which it is made."""
    if kind[0] == "end":
        return EMPTY
    if kind[0] == "fork":
        return parts[0]
    first = nets.letter(kind[1]) if kind[0] == "letter" else parts[0]
    net, _ = nets.product(first, parts[-1])
    return net


def row_nets(layout, nets, rows, wanted):
    """For each of the wanted rows, and all of which they are made, the net of its run; None for the other ones."""
    used = [False] * len(rows)
    for at in wanted:
        used[at] = True
    for at in reversed(range(len(rows))):
        if used[at]:
            for part in rows[at][3]:
                used[part] = True
    found = []
    for at, (procedure, place, _, parts) in enumerate(rows):
        kind = layout[procedure][1][place]
        found.append(net_ahead(nets, kind, [found[part] for part in parts]) if used[at] else None)
    return found


class Leaving:
    """What ended runs of the procedures of a program leave, by what places tells of it.

    lengths tells for each place from which a run ends how few places such a run passes, found the net of a run that
    does; it is the net of all ended runs from there unless they come to an uneven fork: one from which the least runs
    of two choices leave unlike nets.
    """

    def __init__(self, layout, nets):
        self.layout = layout
        self.nets = nets
        self.lengths = least_lengths(layout)
        self.found = {}
        self.passed_places = {}
        self.uneven_forks = {}
        for _, at in sorted([(length, at) for at, length in self.lengths.items()]):
            parts = next_places(layout, at[0], at[1])[least_choice(layout, self.lengths, at)]
            self.found[at] = net_ahead(nets, layout[at[0]][1][at[1]], [self.found[part] for part in parts])

    def can_end(self, procedure):
        """Whether a run of the procedure with this index ends."""
        return start_of(self.layout, procedure) in self.lengths

    def net(self, procedure):
        """The net of a least run of a procedure that can end."""
        return self.found[start_of(self.layout, procedure)]

    def passed(self, procedure):
        """A dict with the places of a procedure that its ended runs pass, those of called runs not counted."""
        if procedure not in self.passed_places:
            self.passed_places[procedure] = self.find_passed(procedure)
        return self.passed_places[procedure]

    def find_passed(self, procedure):
        """The same, when it is asked for the first time."""
        start = start_of(self.layout, procedure)
        known = {start: True} if start in self.lengths else {}
        waiting = list(known)
        while waiting:
            at = waiting.pop()
            for parts in next_places(self.layout, at[0], at[1]):
                if parts and parts[-1] not in known and all(part in self.lengths for part in parts):
                    known[parts[-1]] = True
                    waiting.append(parts[-1])
        return known

    def uneven_choice(self, at):
        """The index of a choice at a place whose least runs leave another net than those from the place, or None."""
        kind = self.layout[at[0]][1][at[1]]
        if kind[0] == "fork":
            for which, part in enumerate(kind[1]):
                other = self.found.get((at[0], part))
                if other is not None and not self.nets.are_equal(self.found[at], other):
                    return which
        return None

    def own_uneven(self, procedure):
        """An uneven fork that ended runs of a procedure pass, called ones not counted, and a choice there, or None."""
        if procedure not in self.uneven_forks:
            self.uneven_forks[procedure] = None
            for at in self.passed(procedure):
                which = self.uneven_choice(at)
                if which is not None:
                    self.uneven_forks[procedure] = (at, which)
                    break
        return self.uneven_forks[procedure]

    def uneven(self, procedure):
        """An uneven fork that ended runs of a procedure come to, in whatever calls, and a choice there, or None."""
        known = {procedure: True}
        waiting = [procedure]
        while waiting:
            asked = waiting.pop()
            fork = self.own_uneven(asked)
            if fork is not None:
                return fork
            for at in self.passed(asked):
                kind = self.layout[asked][1][at[1]]
                if kind[0] == "call" and kind[1] not in known:
                    known[kind[1]] = True
                    waiting.append(kind[1])
        return None

    def leaves_one(self, procedure):
        """Whether all ended runs of a procedure leave the same net, and there are such runs."""
        return self.can_end(procedure) and self.uneven(procedure) is None
