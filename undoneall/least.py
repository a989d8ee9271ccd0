"""The least numbers of places that ended runs pass: from a place to the end of its procedure, and besides that."""

from heapq import heappop, heappush

from undoneall.rows import next_places


def least_lengths(layout):
    """For each place (procedure's index, place) from which a run ends how few places such a run passes."""
    above = _places_above(layout)
    lengths = {}
    waiting = [(1, (procedure, 0)) for procedure in range(len(layout))]
    while waiting:
        length, at = heappop(waiting)
        if at in lengths:
            continue
        lengths[at] = length
        for upper, parts in above.get(at, []):
            if upper not in lengths and all(part in lengths for part in parts):
                heappush(waiting, (1 + sum([lengths[part] for part in parts]), upper))
    return lengths


def _places_above(layout):
    """For each place the pairs of a place and a choice there, of which the run from this place is a part."""
    above = {}
    for procedure, (_, kinds) in enumerate(layout):
        for place in range(len(kinds)):
            for parts in next_places(layout, procedure, place):
                for part in parts:
                    above.setdefault(part, []).append(((procedure, place), parts))
    return above


def least_choice(layout, lengths, at):
    """The index of a choice at a place from which a run ends by which it passes as few places as any."""
    found = []
    for parts in next_places(layout, at[0], at[1]):
        found.append(sum([lengths[part] for part in parts]) if all(part in lengths for part in parts) else None)
    return found.index(lengths[at] - 1)


def least_rows(layout, lengths, start):
    """The rows of a run from a place that passes as few places as any."""
    rows, _ = least_rows_of(layout, lengths, [start])
    return tuple(rows)


def least_rows_of(layout, lengths, starts):
    """The list of the rows of runs from places that pass as few places as any, and for each place its row's index."""
    used = {start: True for start in starts}
    waiting = list(used)
    while waiting:
        at = waiting.pop()
        for part in next_places(layout, at[0], at[1])[least_choice(layout, lengths, at)]:
            if part not in used:
                used[part] = True
                waiting.append(part)
    # Whatever a run is made of is shorter than itself.
    ordered = sorted([(lengths[at], at) for at in used])
    numbers = {at: number for number, (_, at) in enumerate(ordered)}
    rows = []
    for _, at in ordered:
        which = least_choice(layout, lengths, at)
        parts = next_places(layout, at[0], at[1])[which]
        rows.append((at[0], at[1], which, tuple([numbers[part] for part in parts])))
    return (rows, numbers)


def least_around(layout, lengths, start):
    """For each place how few places an ended run from the start passes besides one from there to its procedure's end.

    It stands for the places that such runs come to.
    """
    around = {}
    waiting = [(0, start)] if start in lengths else []
    while waiting:
        length, at = heappop(waiting)
        if at in around:
            continue
        around[at] = length
        for parts in next_places(layout, at[0], at[1]):
            if all(part in lengths for part in parts):
                whole = 1 + length + sum([lengths[part] for part in parts])
                for part in parts:
                    heappush(waiting, (whole - lengths[part], part))
    return around
