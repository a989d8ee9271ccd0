"""The nets of rules' words, put together by rules again, without being written out."""

from undoneall.likeness import common_length
from undoneall.rules import NOTHING, opposite_rules, pieces, reached

FIRST = 0
LAST = 1
EMPTY = 0
# So many letters are looked at one by one before whole words are compared.
FEW = 50


class Nets:
    """Rules of nets, each known by its index; sizes are the lengths of their words, ends the first and last letters.

    known has the index of each rule, products what is known of two nets one behind the other.
    """

    def __init__(self):
        self.rules = [NOTHING]
        self.sizes = [0]
        self.ends = [None]
        self.known = {NOTHING: EMPTY}
        self.products = {}

    def keep(self, rule, size, ends):
        """The index of a rule, which is put behind the others if it is not known."""
        if rule not in self.known:
            self.known[rule] = len(self.rules)
            self.rules.append(rule)
            self.sizes.append(size)
            self.ends.append(ends)
        return self.known[rule]

    def letter(self, x):
        """The word of one letter."""
        return self.keep(("letter", x), 1, (x, x))

    def pair(self, one, other):
        """The word of one rule and behind it that of the other."""
        if one == EMPTY:
            return other
        if other == EMPTY:
            return one
        base, many = self.as_power(one)
        other_base, more = self.as_power(other)
        if base == other_base:
            return self.power(base, many + more)
        ends = (self.ends[one][FIRST], self.ends[other][LAST])
        return self.keep(("pair", one, other), self.sizes[one] + self.sizes[other], ends)

    def power(self, at, k):
        """The word of a rule k times."""
        if at == EMPTY or k == 0:
            return EMPTY
        base, many = self.as_power(at)
        if k * many == 1:
            return base
        return self.keep(("power", base, k * many), self.sizes[base] * k * many, self.ends[base])

    def as_power(self, at):
        """The rule of which a rule is a power, and how often it stands there; itself and 1 if it is none."""
        rule = self.rules[at]
        return rule[1:] if rule[0] == "power" else (at, 1)

    def head(self, at, size):
        """The first letters of a rule's word, so many of them."""
        found = EMPTY
        for part, k in reversed(pieces(self.rules, self.sizes, at, 0, size)):
            found = self.pair(self.power(part, k), found)
        return found

    def tail(self, at, size):
        """The last letters of a rule's word, so many of them."""
        found = EMPTY
        for part, k in pieces(self.rules, self.sizes, at, self.sizes[at] - size, self.sizes[at]):
            found = self.pair(found, self.power(part, k))
        return found

    def border(self, at, end, many):
        """The first or the last letters of a rule's word, so many of them, from its end inwards."""
        found = []
        waiting = [(at, 1)]
        while len(found) < many:
            at, k = waiting.pop()
            rule = self.rules[at]
            if k > 1:
                waiting.append((at, k - 1))
            if rule[0] == "letter":
                found.append(rule[1])
            elif rule[0] == "power":
                waiting.append((rule[1], rule[2]))
            elif end == FIRST:
                waiting.extend([(rule[2], 1), (rule[1], 1)])
            else:
                waiting.extend([(rule[1], 1), (rule[2], 1)])
        return found

    def undone(self, one, other):
        """The greatest number such that so many last letters of one net are the opposite of the other's first ones."""
        most = min(self.sizes[one], self.sizes[other])
        if most == 0 or self.ends[one][LAST] != -self.ends[other][FIRST]:
            return 0
        few = min(most, FEW)
        last = self.border(one, LAST, few)
        first = self.border(other, FIRST, few)
        for same in range(few):
            if last[same] != -first[same]:
                return same
        if few == most:
            return most
        turned = opposite_rules(reached(self.rules, self.tail(one, most)))
        return common_length(turned, reached(self.rules, self.head(other, most)))

    def product(self, one, other):
        """The net of one net and behind it the other, and how many letters of each fall away."""
        if (one, other) not in self.products:
            cut = self.undone(one, other)
            net = self.pair(self.head(one, self.sizes[one] - cut), self.tail(other, self.sizes[other] - cut))
            self.products[(one, other)] = (net, cut)
        return self.products[(one, other)]

    def repeated(self, at, k):
        """The net of a net k times, k from 2 on, and how many letters it begins with whose opposite it ends with."""
        cut = self.undone(at, at)
        size = self.sizes[at] - cut
        middle = self.head(self.tail(at, size), size - cut)
        return (self.pair(self.head(at, cut), self.pair(self.power(middle, k), self.tail(at, cut))), cut)

    def of_rules(self, rules):
        """For each of some rules the net of its word, and how many letters fall away ([16])."""
        found = []
        for rule in rules:
            if rule[0] == "none":
                found.append((EMPTY, 0))
            elif rule[0] == "letter":
                found.append((self.letter(rule[1]), 0))
            elif rule[0] == "pair":
                found.append(self.product(found[rule[1]][0], found[rule[2]][0]))
            else:
                found.append(self.repeated(found[rule[1]][0], rule[2]))
        return found

    def product_of_all(self, row):
        """The net of many nets, one behind the other."""
        # Put together two by two, so that no net is made of a long line of rules.
        while len(row) > 1:
            found = [self.product(row[at], row[at + 1])[0] for at in range(0, len(row) - 1, 2)]
            if len(row) > 2 * len(found):
                found.append(row[-1])
            row = found
        return row[0] if row else EMPTY

    def text_of(self, at):
        """The rules of a net alone, from which its word can be told."""
        return reached(self.rules, at)

    def are_equal(self, one, other):
        """Whether two nets are the same word."""
        size = self.sizes[one]
        if size != self.sizes[other]:
            return False
        return one == other or common_length(self.text_of(one), self.text_of(other)) == size
