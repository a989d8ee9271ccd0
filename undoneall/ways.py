"""The ways by which ended runs come to places, and the rows of runs that go by them."""

from undoneall.least import least_rows_of
from undoneall.rows import next_places


def start_of(layout, procedure):
    """The place (procedure's index, place) where a procedure begins."""
    return (procedure, layout[procedure][0])


def ways_from(layout, lengths, start):
    """For each place that ended runs from the start pass how one comes there, None for the start itself.

    A way is the place ahead, the index of the choice there, and which of the parts of the run from there it is.
    """
    ways = {}
    waiting = []
    if start in lengths:
        ways[start] = None
        waiting.append(start)
    while waiting:
        at = waiting.pop()
        for which, parts in enumerate(next_places(layout, at[0], at[1])):
            if all(part in lengths for part in parts):
                for number, part in enumerate(parts):
                    if part not in ways:
                        ways[part] = (at, which, number)
                        waiting.append(part)
    return ways


def rows_through(layout, lengths, ways, fork, which):
    """The rows of an ended run from where the ways begin that takes a choice at a fork, and is short elsewhere."""
    line = [(fork, which, None)]
    while ways[line[-1][0]] is not None:
        line.append(ways[line[-1][0]])
    beside = []
    for at, choice, number in line:
        parts = next_places(layout, at[0], at[1])[choice]
        beside.extend([part for k, part in enumerate(parts) if k != number])
    rows, numbers = least_rows_of(layout, lengths, beside)
    for at, choice, number in line:
        last = len(rows) - 1
        parts = next_places(layout, at[0], at[1])[choice]
        rows.append((*at, choice, tuple([last if k == number else numbers[part] for k, part in enumerate(parts)])))
    return tuple(rows)
