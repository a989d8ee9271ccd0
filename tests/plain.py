"""What the document says of words, done plainly: on words that are written out, and rule by rule on straight texts."""


def rank(x):
    """The rank of a letter."""
    return 2 * (abs(x) - 1) + (x < 0)


def opposite_word(word):
    """The opposite of a word."""
    return tuple(-x for x in reversed(word))


def net_word(word):
    """The net of a word."""
    kept = []
    for x in word:
        if kept and kept[-1] == -x:
            kept.pop()
        else:
            kept.append(x)
    return tuple(kept)


def words_of(text):
    """The words of all rules of a straight text."""
    words = []
    for rule in text:
        if rule[0] == "none":
            words.append(())
        elif rule[0] == "letter":
            words.append((rule[1],))
        elif rule[0] == "pair":
            words.append(words[rule[1]] + words[rule[2]])
        else:
            words.append(words[rule[1]] * rule[2])
    return words


def text_of(word):
    """A straight text of a word, letter by letter."""
    if not word:
        return (("none",),)
    rules = [("letter", word[0])]
    at = 0
    known = {word[0]: 0}
    for x in word[1:]:
        if x not in known:
            known[x] = len(rules)
            rules.append(("letter", x))
        rules.append(("pair", at, known[x]))
        at = len(rules) - 1
    return tuple(rules)


def sides(counts):
    """The left side, by how often each two unlike symbols stand side by side."""
    left, right = set(), set()
    for sign in sorted({x for pair in counts for x in pair}):
        with_left = sum(n for (x, y), n in counts.items() if (x == sign and y in left) or (y == sign and x in left))
        with_right = sum(n for (x, y), n in counts.items() if (x == sign and y in right) or (y == sign and x in right))
        (left if with_left <= with_right else right).add(sign)
    forward = sum(n for (x, y), n in counts.items() if x in left and y in right)
    backward = sum(n for (x, y), n in counts.items() if x in right and y in left)
    return left if forward >= backward else right


def runs(row):
    """The stretches of equal symbols of a row, as lists of a symbol and a number."""
    found = []
    for sign in row:
        if found and found[-1][0] == sign:
            found[-1][1] += 1
        else:
            found.append([sign, 1])
    return [tuple(run) for run in found]


def plain_rounds(word):
    """The turns on a word that is written out."""
    row = [rank(x) for x in word]
    turns = []
    first = 40
    while len(row) > 1:
        if len(turns) % 2 == 0:
            made = sorted({run for run in runs(row) if run[1] > 1})
            row = [first + made.index(run) if run[1] > 1 else run[0] for run in runs(row)]
            turns.append(("blocks", tuple(made)))
        else:
            counts = {}
            for pair in zip(row, row[1:]):
                counts[pair] = counts.get(pair, 0) + 1
            left = sides(counts)
            made = sorted(pair for pair in counts if pair[0] in left and pair[1] not in left)
            row = joined_pairs(row, {pair: first + at for at, pair in enumerate(made)})
            turns.append(("pairs", tuple(sorted(left)), tuple(made)))
        first += len(made)
    return tuple(turns)


def joined_pairs(row, numbers):
    """The row with each two symbols that have a number replaced by it."""
    out = []
    for sign in row:
        if out and (out[-1], sign) in numbers:
            out[-1] = numbers[(out[-1], sign)]
        else:
            out.append(sign)
    return out


def rules_of(letters, turns):
    """The shrunk text of a word with these letters and these turns."""
    if not letters:
        return (("none",),)
    ordered = sorted(set(letters), key=rank)
    rules = [("letter", x) for x in ordered]
    index = {rank(x): at for at, x in enumerate(ordered)}
    made = 40
    for turn in turns:
        for x, y in turn[-1]:
            index[made] = len(rules)
            made += 1
            rules.append(("power", index[x], y) if turn[0] == "blocks" else ("pair", index[x], index[y]))
    return tuple(rules)


def plain_shrunk(word):
    """The shrunk text of a word that is written out."""
    return rules_of(word, plain_rounds(word))


def plain_cancelling(text):
    """What cancelling tells, by words that are written out."""
    nets = []
    told = []
    for rule in text:
        cut = 0
        if rule[0] == "none":
            net = ()
        elif rule[0] == "letter":
            net = (rule[1],)
        elif rule[0] == "pair":
            one, other = nets[rule[1]], nets[rule[2]]
            while cut < min(len(one), len(other)) and one[-1 - cut] == -other[cut]:
                cut += 1
            net = one[:len(one) - cut] + other[cut:]
        else:
            one = nets[rule[1]]
            while 2 * (cut + 1) <= len(one) and one[-1 - cut] == -one[cut]:
                cut += 1
            net = one[:cut] + one[cut:len(one) - cut] * rule[2] + one[len(one) - cut:]
        nets.append(net)
        told.append((plain_shrunk(net), cut))
    return tuple(told)


class Bodies:
    """The turns on a straight text rule by rule: each rule a row of symbols (sign, how often) and rules ("rule", at).

    In each turn every rule gives what stands at its ends to the rules that draw from it.
    """

    def __init__(self, text):
        self.bodies = []
        places = []
        for rule in text:
            if rule[0] == "none":
                self.bodies.append([])
            elif rule[0] == "letter":
                self.bodies.append([(rank(rule[1]), 1)])
            elif rule[0] == "pair":
                self.bodies.append([("rule", places[rule[1]]), ("rule", places[rule[2]])])
            else:
                self.bodies.append(self.power(places[rule[1]], rule[2]))
            places.append(len(self.bodies) - 1)
        # The last one keeps what the whole word gives.
        self.bodies.append([("rule", places[-1])])
        self.first = 40
        self.turns = []

    def power(self, at, k):
        """A body for a rule k times, by doubling."""
        body = []
        while k:
            if k & 1:
                body.append(("rule", at))
            k >>= 1
            if k:
                self.bodies.append([("rule", at), ("rule", at)])
                at = len(self.bodies) - 1
        return body

    def tidy(self):
        """Leave out empty rules; return how often each rule stands, and how many symbols the word has."""
        for body in self.bodies:
            body[:] = [item for item in body if item[0] != "rule" or self.bodies[item[1]]]
        often = [0] * len(self.bodies)
        often[-1] = 1
        for at in reversed(range(len(self.bodies))):
            for item in self.bodies[at]:
                if item[0] == "rule":
                    often[item[1]] += often[at]
        self.bodies = [body if often[at] else [] for at, body in enumerate(self.bodies)]
        return often, sum(often[at] * item[1] for at, body in enumerate(self.bodies) for item in body
                          if item[0] != "rule")

    def give(self, starts, ends, together):
        """Let each rule but the last one give its first symbol where starts says so, its last one where ends does."""
        given = {}
        for at, body in enumerate(self.bodies):
            row = []
            for item in body:
                if item[0] == "rule":
                    row.extend([part for part in (given[item[1]][0], item, given[item[1]][1]) if part])
                    if not self.bodies[item[1]]:
                        row.remove(item)
                else:
                    row.append(item)
            row = together(row)
            before = behind = None
            if at < len(self.bodies) - 1:
                if row and row[0][0] != "rule" and starts(row[0][0]):
                    before = row.pop(0)
                if row and row[-1][0] != "rule" and ends(row[-1][0]):
                    behind = row.pop()
            self.bodies[at] = row
            given[at] = (before, behind)

    def blocks(self):
        """A turn of blocks."""
        self.give(lambda sign: True, lambda sign: True, merged)
        made = sorted({item for body in self.bodies for item in body if item[0] != "rule" and item[1] > 1})
        numbers = {run: (self.first + at, 1) for at, run in enumerate(made)}
        self.bodies = [[numbers.get(item, item) for item in body] for body in self.bodies]
        self.first += len(made)
        self.turns.append(("blocks", tuple(made)))

    def pairs(self, often):
        """A turn of pairs."""
        borders = []
        counts = {}
        for at, body in enumerate(self.bodies):
            row = [borders[item[1]] if item[0] == "rule" else (item[0], item[0]) for item in body]
            borders.append((row[0][0], row[-1][1]) if row else None)
            for one, other in zip(row, row[1:]):
                counts[(one[1], other[0])] = counts.get((one[1], other[0]), 0) + often[at]
        left = sides(counts)
        made = sorted(pair for pair in counts if pair[0] in left and pair[1] not in left)
        numbers = {pair: self.first + at for at, pair in enumerate(made)}
        self.give(lambda sign: sign not in left, lambda sign: sign in left, list)
        self.bodies = [joined_items(body, numbers) for body in self.bodies]
        self.first += len(made)
        self.turns.append(("pairs", tuple(sorted(left)), tuple(made)))


def merged(row):
    """A row with equal symbols side by side put together."""
    out = []
    for item in row:
        if item[0] != "rule" and out and out[-1][0] == item[0]:
            out[-1] = (item[0], out[-1][1] + item[1])
        else:
            out.append(item)
    return out


def joined_items(row, numbers):
    """A row with each two symbols that have a number replaced by it."""
    out = []
    for item in row:
        if out and (out[-1][0], item[0]) in numbers:
            out[-1] = (numbers[(out[-1][0], item[0])], 1)
        else:
            out.append(item)
    return out


def rounds_by_rules(text):
    """The turns on the word of a straight text, rule by rule."""
    work = Bodies(text)
    often, length = work.tidy()
    while length > 1:
        if len(work.turns) % 2 == 0:
            work.blocks()
        else:
            work.pairs(often)
        often, length = work.tidy()
    return tuple(work.turns)
