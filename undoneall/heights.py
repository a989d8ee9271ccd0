"""How many deeds stand at most, where nothing goes wrong."""


class Heights:
    """How many deeds can stand in each state, and how it is come to.

    order has the states that are come to, by how few steps; first tells for each how one comes there so. heights tells
    how many deeds stand by the steps that latest tells, which may be ever more: around is a state that is come to again
    with more deeds, None if there is none.
    """

    def __init__(self, moves):
        self.moves = moves
        self.first = {moves.begin: None}
        self.order = [moves.begin]
        self.find_order()
        self.latest = {moves.begin: None}
        self.heights = {moves.begin: 0}
        self.around = None
        while self.around is None and self.rise():
            self.around = self.find_around()

    def find_order(self):
        """Find the states that are come to, those by few steps first."""
        done = 0
        while done < len(self.order):
            state = self.order[done]
            done += 1
            for _, to, how in self.moves.steps[state]:
                if to not in self.first:
                    self.first[to] = (state, how)
                    self.order.append(to)

    def rise(self):
        """Take each step once more, and return whether one leads to more deeds than were known."""
        changed = False
        for state in self.order:
            for x, to, how in self.moves.steps[state]:
                high = self.heights[state] + (x > 0) - (x < 0)
                if high > self.heights.get(to, -1):
                    self.heights[to] = high
                    self.latest[to] = (state, how)
                    changed = True
        return changed

    def find_around(self):
        """A place's state to which its latest steps lead back, None if there is none."""
        marks = {}
        for number, state in enumerate(self.order):
            path = []
            while state not in marks and self.latest[state] is not None:
                marks[state] = number
                path.append(state)
                state, _ = self.latest[state]
            if path and marks.get(state) == number:
                return max([inner for inner in path[path.index(state):] if inner <= len(self.moves.places)])
        return None

    def line_of(self, ways, state, last):
        """The hows of the steps from the last state whose way is told, or the given one, to a state."""
        line = []
        while ways[state] is not None:
            state, how = ways[state]
            if how is not None:
                line.append(how)
            if state == last:
                break
        return line[::-1]

    def told(self):
        """What standing tells: ("most", n, beginning) or ("endless", beginning, leg, moves)."""
        if self.around is None:
            high, state = max([(self.heights[state], -state) for state in self.moves.numbers.values()])
            return ("most", high, self.moves.told_beginning(self.line_of(self.latest, -state, None)))
        ahead = self.line_of(self.first, self.around, None)
        beginning = self.moves.told_beginning(ahead + self.line_of(self.latest, self.around, self.around))
        legs = [number for number, how in enumerate(ahead) if how[0] == "enter"]
        return ("endless", beginning, len(legs), len(ahead) - (legs[-1] + 1 if legs else 0))
