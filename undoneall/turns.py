"""The turns of blocks and of pairs on the row of a word, until it has but one symbol.

Symbols are told by their ranks: 0 to 39 are the letters 1, -1, 2, -2 and so on, from 40 on come those that are made.
"""

from undoneall.closing import close_leaves
from undoneall.errors import TooGreat
from undoneall.parts import CLOSED, LEFT, RIGHT, Parts, joined_runs
from undoneall.rules import NOTHING, letter_of, letter_rank, trimmed
from undoneall.straight import rule_sizes, written_out

FIRST_MADE = 40
# A word with so many letters for each rule, or fewer, is written out: that is quicker than to go by its rules.
FEW_PER_RULE = 8


def all_turns(rules, most):
    """The ranks of the letters that stand in a row of rules' word, ascending, and the turns on its row.

    TooGreat is raised if that takes more symbols than most, those of the letters among them; None sets no bound.
    """
    kept = trimmed(rules)
    letters = sorted([letter_rank(rule[1]) for rule in kept if rule[0] == "letter"])
    turns = []
    if kept:
        row = Row(kept, None if most is None else most - len(letters))
        while row.length > 1:
            turns.append(("blocks", row.blocks()))
            if row.length > 1:
                turns.append(("pairs", *row.pairs()))
    return (letters, turns)


def symbol_rules(letters, turns):
    """The straight text of the letters with these ranks and the symbols that turns make, in the order of ranks."""
    rules = [("letter", letter_of(rank)) for rank in letters]
    places = {rank: at for at, rank in enumerate(letters)}
    for turn in turns:
        for made in turn[-1]:
            places[FIRST_MADE + len(rules) - len(letters)] = len(rules)
            if turn[0] == "blocks":
                rules.append(("power", places[made[0]], made[1]))
            else:
                rules.append(("pair", places[made[0]], places[made[1]]))
    return tuple(rules) if rules else (NOTHING,)


class Row:
    """The row of a word's symbols: its parts, how many symbols it has, how many were made and how many may be."""

    def __init__(self, rules, most):
        """rules are trimmed ones; most may be None."""
        sizes = rule_sizes(rules)
        self.parts = Parts()
        self.length = sizes[-1]
        self.many_made = 0
        self.most = most
        if self.length <= FEW_PER_RULE * len(rules):
            self.parts.lay_row([letter_rank(x) for x in written_out(rules, sizes)])
        else:
            self.parts.lay_rules(rules)

    def ranks_of(self, made):
        """The ranks of the symbols that are made, in order."""
        first = FIRST_MADE + self.many_made
        self.many_made += len(made)
        if self.most is not None and self.many_made > self.most:
            raise TooGreat("more symbols are made than may be")
        return {symbol: first + at for at, symbol in enumerate(made)}

    def blocks(self):
        """Take a turn of blocks, and return what is made."""
        for seam in self.parts.row_seams():
            seam.row = runs_of(seam.row)
        close_leaves(self.parts, 1)
        outer = (self.parts.outer(LEFT, 2), self.parts.outer(RIGHT, 2))
        seams = self.parts.row_seams()
        for seam in seams:
            seam.row = loosened_runs(seam, outer)
        made = sorted({run for seam in seams for run in seam.row if run[1] > 1})
        ranks = self.ranks_of(made)
        for seam in seams:
            self.length -= seam.weight * sum([run[1] - 1 for run in seam.row])
            seam.row = [ranks[run] if run[1] > 1 else run[0] for run in seam.row]
        close_leaves(self.parts, 0)
        return tuple(made)

    def pairs(self):
        """Take a turn of pairs, and return the left side and what is made."""
        outer = (self.parts.outer(LEFT, 1), self.parts.outer(RIGHT, 1))
        seams = self.parts.row_seams()
        counts = {}
        for seam in seams:
            count_neighbours(seam, outer, counts)
        left = left_side(counts)
        made = sorted([pair for pair in counts if left[pair[0]] and not left[pair[1]]])
        ranks = self.ranks_of(made)
        self.length -= sum([counts[pair] for pair in made])
        for seam in seams:
            seam.row = paired(loosened_signs(seam, outer, left), ranks)
        close_leaves(self.parts, 0)
        return (tuple([sign for sign in sorted(left) if left[sign]]), tuple(made))


def runs_of(signs):
    """The stretches of equal symbols in a row, as pairs of the symbol and how often it stands."""
    runs = []
    for sign in signs:
        if runs and runs[-1][0] == sign:
            runs[-1] = (sign, runs[-1][1] + 1)
        else:
            runs.append((sign, 1))
    return runs


def loosened_runs(seam, outer):
    """The runs of a seam with those that come loose from its ends; at a closed end its own outermost goes further."""
    before, behind = seam.ends
    row = seam.row
    if before >= 0:
        row = joined_runs([outer[RIGHT][before]], row)
    if behind >= 0:
        row = joined_runs(row, [outer[LEFT][behind]])
    if before == CLOSED:
        row = row[1:]
    return row[:-1] if behind == CLOSED else row


def count_neighbours(seam, outer, counts):
    """Count each two symbols that stand side by side in a seam or at its ends."""
    before, behind = seam.ends
    row = list(seam.row)
    if before >= 0:
        row.insert(0, outer[RIGHT][before])
    if behind >= 0:
        row.append(outer[LEFT][behind])
    for pair in zip(row, row[1:]):
        counts[pair] = counts.get(pair, 0) + seam.weight


def left_side(counts):
    """For each symbol whether it is on the left side, by how often each two stand side by side."""
    lower = {}
    for pair, count in counts.items():
        low, high = pair if pair[0] < pair[1] else (pair[1], pair[0])
        lower.setdefault(low, [])
        lower.setdefault(high, []).append((low, count))
    left = {}
    for sign in sorted(lower):
        # How many more neighbourhoods it has with the left side than with the right one.
        left[sign] = sum([count if left[other] else -count for other, count in lower[sign]]) <= 0
    lead = sum([count if left[x] else -count for (x, y), count in counts.items() if left[x] != left[y]])
    return {sign: not left[sign] for sign in left} if lead < 0 else left


def loosened_signs(seam, outer, left):
    """The symbols of a seam with those that come loose from its ends; at a closed end its own may go further.

    A symbol of the right side comes loose at the beginning of a part, one of the left side at its end.
    """
    before, behind = seam.ends
    row = list(seam.row)
    if before >= 0 and left[outer[RIGHT][before]]:
        row.insert(0, outer[RIGHT][before])
    if behind >= 0 and not left[outer[LEFT][behind]]:
        row.append(outer[LEFT][behind])
    if before == CLOSED and row and not left[row[0]]:
        row = row[1:]
    if behind == CLOSED and row and left[row[-1]]:
        row = row[:-1]
    return row


def paired(row, ranks):
    """The row with each two symbols that make one replaced by it."""
    signs = []
    last = None
    for sign in row:
        if (last, sign) in ranks:
            signs[-1] = ranks[(last, sign)]
            last = None
        else:
            signs.append(sign)
            last = sign
    return signs
