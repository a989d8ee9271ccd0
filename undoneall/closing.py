"""Takes out of the parts of a row those of which nothing is left but a short rest."""

from undoneall.parts import CLOSED, LEAF, LEFT, RIGHT, SIDES, joined_runs


def close_leaves(parts, many):
    """Close each part of which only a row of so many entries is left, and those that come to that by it.

    many is 0, or 1 while rows are told by runs.
    """
    waiting = [seam for seam in parts.row_seams() if seam.ends == LEAF and len(seam.row) == many]
    while waiting:
        seam = waiting.pop()
        if len(seam.row) == many:
            waiting.extend(close_seam(parts, seam))


def close_seam(parts, leaf):
    """Close the leaves that share a seam, and return the seams of those that have become leaves by it."""
    leaves = list(leaf.members)
    if leaves[0] == parts.whole:
        end_row(parts, leaf.row)
        return []
    leaf.weight = 0
    closing = Closing(parts, leaf.row)
    groups, towers = closing.by_seams(leaves)
    for sides, uppers in groups:
        closing.close_halves(uppers, sides)
    for upper in towers:
        closing.close_power(upper)
    for side in SIDES:
        closing.share_out(side, leaf.kins[side])
    for upper, inner, seam in closing.powers:
        closing.lay_power(upper, inner, seam)
    # Only now, when each part is in its place, what touches the new kins can be told from what does not.
    for uppers, side, kin, own in closing.newcomers:
        parts.rename(uppers, side, kin, own)
    return closing.leaves


def end_row(parts, rest):
    """Nothing but the rest is left of the whole: the row is one seam between its two ends."""
    before = parts.seams[parts.whole + 1].row
    behind = parts.seams[parts.whole + 2].row
    parts.lay_row(joined_runs(joined_runs(before, rest), behind) if rest else [*before, *behind])


class Closing:
    """What happens while leaves with the same rest are closed.

    claims holds, for each side, parts that showed a leaf's end there, the seam that they show from now on, and the seam
    that is their own. newcomers holds parts that need another kin at a side, with its number and their own seam. powers
    holds what is to be laid anew, leaves the seams of the parts that have become leaves.
    """

    def __init__(self, parts, rest):
        self.parts = parts
        self.rest = rest
        self.claims = ([], [])
        self.newcomers = []
        self.powers = []
        self.leaves = []

    def by_seams(self, leaves):
        """The parts over the leaves: the sides at which halves are closed and the parts of one seam; and the powers."""
        closed = {}
        for side in SIDES:
            for part in leaves:
                for upper in self.parts.over[side][part]:
                    closed.setdefault(upper, []).append(side)
        groups = {}
        towers = []
        for upper, sides in closed.items():
            if self.parts.repeats[upper] > 1:
                towers.append(upper)
            else:
                groups.setdefault((self.parts.seams[upper], tuple(sides)), []).append(upper)
        return ([(sides, uppers) for (_, sides), uppers in groups.items()], towers)

    def close_halves(self, uppers, sides):
        """Put the rest in the place of the halves on these sides of some parts of a seam."""
        # Where both sides are closed, the parts have shown the seam at neither of them till now.
        other = LEFT if sides == (RIGHT,) else RIGHT
        newcomers, apart = self.parts.set_apart(uppers, other)
        if newcomers:
            self.newcomers.append((newcomers, other, self.parts.new_kin(other, apart), apart))
        seam = self.parts.seams[uppers[0]]
        if LEFT in sides:
            seam.row = joined_runs(self.rest, seam.row)
        if RIGHT in sides:
            seam.row = joined_runs(seam.row, self.rest)
        seam.ends = tuple([CLOSED if side in sides else seam.ends[side] for side in SIDES])
        for side in sides:
            self.claims[side].append((uppers, seam, seam))
        if seam.ends == LEAF:
            self.leaves.append(seam)

    def close_power(self, upper):
        """Begin to lay a power of a leaf anew: the rest, and then its row and the rest as often as the row stood."""
        times = self.parts.repeats[upper]
        row = self.parts.seams[upper].row
        row = joined_runs(row, self.rest) if self.rest else row
        self.parts.take_out(upper)
        if not row or (self.rest and len(row) == 1):
            # All of it is one run, or nothing.
            seam = self.parts.new_seam(LEAF, [(sign, k * times + self.rest[0][1]) for sign, k in row])
            self.parts.repeats[upper] = 1
            self.parts.put_in(upper, seam)
            self.leaves.append(seam)
            self.claim(upper, seam, seam)
            return
        inner = self.parts.new_seam(LEAF, row)
        seam = self.parts.new_seam(LEAF, self.rest)
        if self.rest:
            self.parts.new_kin(LEFT, inner)
        self.claim(upper, seam if self.rest else inner, inner)
        self.powers.append((upper, inner, seam))

    def claim(self, upper, left, right):
        """Claim the leaves' kins for a power that shows these seams from now on; its own seam is nobody else's."""
        self.claims[LEFT].append(([upper], left, None))
        self.claims[RIGHT].append(([upper], right, None))

    def share_out(self, side, kin):
        """Give the kin of the leaves at a side to one of those that claim it, and new ones to the others.

        The claim with the greatest bulk has it: so each part gets another kin only a few times.
        """
        claims = self.claims[side]
        if not claims:
            del self.parts.heads[side][kin]
            return
        bulks = [sum([self.parts.bulks[side][upper] for upper in uppers]) for uppers, _, _ in claims]
        heir = bulks.index(max(bulks))
        for at, (uppers, seam, own) in enumerate(claims):
            if at == heir:
                self.parts.give_kin(side, seam, kin)
            else:
                self.newcomers.append((uppers, side, self.parts.new_kin(side, seam), own))

    def lay_power(self, upper, inner, seam):
        """Lay a power anew: the rest and a power of what is in the inner seam, or such a power alone."""
        parts = self.parts
        times = parts.repeats[upper]
        half = parts.add_part(LEAF, 1, parts.stands[upper] * times, inner.kins, inner)
        between = (inner.kins[RIGHT], inner.kins[LEFT])
        if self.rest:
            half = parts.add_part((half, half), times - 1, parts.stands[upper], inner.kins, parts.new_seam(between, []))
            parts.repeats[upper] = 1
            parts.put_over(upper, (CLOSED, half))
            seam.ends = (CLOSED, inner.kins[LEFT])
        else:
            parts.repeats[upper] = times - 1
            parts.put_over(upper, (half, half))
            seam.ends = between
        parts.put_in(upper, seam)
