"""The row of symbols of a word, held as the parts of which its rules put it together.

Each rule is a part with two halves. The symbols that have come loose between its halves are its seam, and what stands
in the seams of all parts is the row. A turn on the row lets symbols come loose from the ends of parts into the seams
that touch these ends; a part of which nothing is left is closed. Parts that show the same end at a side are of one kin
there, and parts whose halves are of the same kins where they meet share a seam: so a turn costs as much as the row has
unlike places, not as much as there are parts.
"""

from undoneall.rules import letter_rank

# What stands for a half that is closed, and beyond the ends of the row.
CLOSED = -1
WALL = -2
LEFT = 0
RIGHT = 1
SIDES = (0, 1)
# The ends of a seam that is all that is left of its parts.
LEAF = (-1, -1)


class Seam:
    """The loose symbols between the halves of a part, or of several parts that are alike there.

    ends are the kins between which it lies (or CLOSED, or WALL), members are its parts, weight is how often it stands
    in the row. Where an end is closed, the seam itself is what its parts show there: kins tells the number of that kin.
    bulks are, for each side, how much there is to do if all of its parts get another kin.
    """

    def __init__(self, ends, row):
        self.ends = ends
        self.row = row
        self.members = {}
        self.weight = 0
        self.bulks = [0, 0]
        self.kins = [None, None]


def joined_runs(one, other):
    """The runs of both rows, one behind the other; two runs of one symbol that touch become one."""
    if one and other and one[-1][0] == other[0][0]:
        return [*one[:-1], (one[-1][0], one[-1][1] + other[0][1]), *other[1:]]
    return [*one, *other]


class Parts:
    """The parts of a word, their kins and their seams.

    For each side and each part: over tells the parts whose half there it is, kins its kin there, bulks how much there
    is to do if it gets another one. For each side and kin, heads tells the seam that its parts show. repeats tells how
    often a part's seam stands in the part, stands how often the part stands in the word. The last rule's part is the
    whole; behind it are two parts for what is between it and the ends of the row.
    """

    def __init__(self):
        self.over = ([], [])
        self.kins = ([], [])
        self.bulks = ([], [])
        self.heads = ({}, {})
        self.many_kins = 0
        self.repeats = []
        self.stands = []
        self.seams = []
        self.all_seams = []
        self.whole = None

    def lay_row(self, row):
        """Take a row that is written out: one seam between the two ends."""
        self.heads = ({}, {})
        self.all_seams = []
        seam = self.new_seam((WALL, WALL), row)
        seam.weight = 1

    def lay_rules(self, rules):
        """Take the parts of trimmed rules; the symbols of letters are their ranks."""
        self.whole = len(rules) - 1
        stands = how_often(rules)
        shared = {}
        for at, rule in enumerate(rules):
            if rule[0] == "letter":
                self.add_letter(letter_rank(rule[1]), stands[at])
            elif rule[0] == "pair":
                self.add_over((rule[1], rule[2]), 1, stands[at], shared)
            else:
                self.add_over((rule[1], rule[1]), rule[2] - 1, stands[at], shared)
        self.add_over((WALL, self.whole), 1, 1, shared)
        self.add_over((self.whole, WALL), 1, 1, shared)
        for side in SIDES:
            bulks = self.bulks[side]
            for part in reversed(range(len(bulks))):
                bulks[part] = 1 + len(self.over[1 - side][part]) + sum([bulks[at] for at in self.over[side][part]])
                self.seams[part].bulks[side] += bulks[part]

    def add_letter(self, sign, stands):
        """Put a part that is one symbol behind the others."""
        seam = self.new_seam(LEAF, [sign])
        self.add_part(LEAF, 1, stands, [self.new_kin(side, seam) for side in SIDES], seam)

    def add_over(self, halves, repeats, stands, shared):
        """Put a part with these halves behind the others; shared holds the seams that lie between two kins."""
        left, right = halves
        ends = (left if left == WALL else self.kins[RIGHT][left], right if right == WALL else self.kins[LEFT][right])
        if ends not in shared:
            shared[ends] = self.new_seam(ends, [])
        kins = [WALL if halves[side] == WALL else self.kins[side][halves[side]] for side in SIDES]
        self.add_part(halves, repeats, stands, kins, shared[ends])

    def add_part(self, halves, repeats, stands, kins, seam):
        """Put a part behind the others, and return its number."""
        part = len(self.repeats)
        self.repeats.append(repeats)
        self.stands.append(stands)
        for side in SIDES:
            self.over[side].append([])
            self.kins[side].append(kins[side])
            self.bulks[side].append(0)
        self.seams.append(seam)
        self.put_over(part, halves)
        self.put_in(part, seam)
        return part

    def put_over(self, part, halves):
        """Put a part over its halves, as far as these are not closed."""
        for side in SIDES:
            if halves[side] >= 0:
                self.over[side][halves[side]].append(part)

    def new_seam(self, ends, row):
        """A new one among all seams."""
        seam = Seam(ends, row)
        self.all_seams.append(seam)
        return seam

    def new_kin(self, side, seam):
        """The number of a new kin that shows this seam."""
        kin = self.many_kins
        self.many_kins += 1
        self.give_kin(side, seam, kin)
        return kin

    def give_kin(self, side, seam, kin):
        """Make the seam the one that a kin shows."""
        seam.kins[side] = kin
        self.heads[side][kin] = seam

    def put_in(self, part, seam):
        """Make a part one of a seam's."""
        self.seams[part] = seam
        seam.members[part] = True
        seam.weight += self.stands[part] * self.repeats[part]
        for side in SIDES:
            seam.bulks[side] += self.bulks[side][part]

    def take_out(self, part):
        """Make a part none of its seam's."""
        seam = self.seams[part]
        del seam.members[part]
        seam.weight -= self.stands[part] * self.repeats[part]
        for side in SIDES:
            seam.bulks[side] -= self.bulks[side][part]

    def row_seams(self):
        """The seams that stand in the row."""
        self.all_seams = [seam for seam in self.all_seams if seam.weight > 0]
        return list(self.all_seams)

    def set_apart(self, parts, side):
        """Part some parts of a seam from its others; return the parts and the seam that need a new kin at a side.

        There are none unless the seam is what all of them show at the side: then those with the lesser bulk need one.
        """
        old = self.seams[parts[0]]
        if len(parts) == len(old.members):
            return ([], old)
        moved = parts
        if old.kins[side] is not None and 2 * sum([self.bulks[side][part] for part in parts]) > old.bulks[side]:
            kept = {part: True for part in parts}
            moved = [part for part in old.members if part not in kept]
        seam = self.new_seam(old.ends, old.row)
        for part in moved:
            self.take_out(part)
            self.put_in(part, seam)
        return ([] if old.kins[side] is None else moved, seam)

    def rename(self, parts, side, kin, own):
        """Give parts, and all that show their end at a side, a new kin there; own is their own seam (None: any).

        Parts that touch this end now lie at another kin than those with which they shared a seam, so they get a seam
        of their own; where the shared one was what they showed themselves, some need a new kin, too. A part that has
        come to another seam since its kin was made has got its kin by that.
        """
        waiting = [(parts, kin, own)]
        while waiting:
            parts, kin, own = waiting.pop()
            rising = [part for part in parts if own is None or self.seams[part] == own]
            for uppers in self.rename_all(rising, side, kin):
                newcomers, other = self.set_apart(uppers, side)
                seam = self.seams[uppers[0]]
                seam.ends = (kin, seam.ends[1]) if side == RIGHT else (seam.ends[0], kin)
                if newcomers:
                    waiting.append((newcomers, self.new_kin(side, other), other))

    def rename_all(self, rising, side, kin):
        """Give the rising parts, and all that show their end at a side, a kin; return what touches it, seam by seam."""
        touching = {}
        while rising:
            part = rising.pop()
            self.kins[side][part] = kin
            for upper in self.over[1 - side][part]:
                touching.setdefault(self.seams[upper], []).append(upper)
            rising.extend(self.over[side][part])
        return list(touching.values())

    def outer(self, side, wanted):
        """For each kin what stands outermost at its end on a side.

        A row with fewer entries than wanted does not tell it without what comes loose there from its other half.
        """
        heads = self.heads[side]
        found = {}
        for first in heads:
            path = []
            kin = first
            while kin >= 0 and kin not in found:
                path.append(kin)
                kin = heads[kin].ends[1 - side] if len(heads[kin].row) < wanted else CLOSED
            for kin in reversed(path):
                row = heads[kin].row
                inner = heads[kin].ends[1 - side]
                if len(row) < wanted and inner >= 0:
                    row = joined_runs([found[inner]], row) if side == RIGHT else joined_runs(row, [found[inner]])
                found[kin] = row[-1] if side == RIGHT else row[0]
        return found


def how_often(rules):
    """How often each rule's word stands in that of the last one, by the way it is put together."""
    stands = [0] * len(rules)
    stands[-1] = 1
    for at in reversed(range(len(rules))):
        rule = rules[at]
        if rule[0] == "pair":
            stands[rule[1]] += stands[at]
            stands[rule[2]] += stands[at]
        elif rule[0] == "power":
            stands[rule[1]] += stands[at] * rule[2]
    return stands
