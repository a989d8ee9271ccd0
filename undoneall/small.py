"""The words of letters that short ended runs leave, as they are, not reduced."""

from undoneall.errors import TooGreat
from undoneall.least import least_around, least_lengths
from undoneall.rows import next_places

MOST_WORDS = 1000


def words_within(layout, start, most):
    """The words of the ended runs from a place that pass at most so many places; TooGreat if there are too many."""
    words = Words(layout, start, most)
    for count in range(1, most + 1):
        words.step(count)
    return list(words.known.get(start, {}))


class Words:
    """The words of runs from places on, found by how few places a run passes that has the word.

    spare tells for each place how many places a run from it may pass as part of an ended run from the start that passes
    at most so many; so each of its words makes another word of the start, and there are no more of them than there are
    of these. known holds the words of each place, newest lists of them by the number of places.
    """

    def __init__(self, layout, start, most):
        self.layout = layout
        lengths = least_lengths(layout)
        around = least_around(layout, lengths, start)
        self.spare = {at: most - around[at] for at in around if around[at] + lengths[at] <= most}
        self.known = {at: {} for at in self.spare}
        self.newest = {at: [[]] for at in self.spare}

    def step(self, count):
        """Find the words of the runs that pass so many places, unless fewer do."""
        for at in self.spare:
            self.newest[at].append([])
            if count <= self.spare[at]:
                self.step_from(at, count)

    def step_from(self, at, count):
        """Find the words of the runs from a place; those of shorter runs are known."""
        procedure, place = at
        kind = self.layout[procedure][1][place]
        ahead = (kind[1],) if kind[0] == "letter" else ()
        if kind[0] == "end" and count == 1:
            self.put(at, ())
        for parts in next_places(self.layout, procedure, place):
            if len(parts) == 2:
                self.step_call(at, parts[0], parts[1], count - 1)
            elif len(parts) == 1 and parts[0] in self.spare:
                for word in list(self.newest[parts[0]][count - 1]):
                    self.put(at, ahead + word)

    def step_call(self, at, called, behind, count):
        """Find the words of a called run and one behind it that pass so many places together."""
        for many in range(1, count):
            others = list(self.newest[behind][count - many])
            for word in list(self.newest[called][many]):
                for other in others:
                    self.put(at, word + other)

    def put(self, at, word):
        """Put a word to the newest ones of a place, if it is not known there."""
        if word in self.known[at]:
            return
        if len(self.known[at]) == MOST_WORDS:
            raise TooGreat("short runs leave too many words")
        self.known[at][word] = True
        self.newest[at][-1].append(word)
