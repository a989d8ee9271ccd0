"""Rows that tell runs from places to the ends of their procedures, each made of earlier ones."""

from undoneall.kinds import is_row, is_within

MOST_ROWS = 5000


def are_rows(layout, thing):
    """Whether thing is a tuple of rows of runs, the last one at any place, for what places tells of a program."""
    if not is_row(thing, 1, MOST_ROWS):
        return False
    return all(_is_right(layout, thing, at) for at in range(len(thing)))


def _is_right(layout, rows, at):
    """Whether the row at an index is right; those ahead of it are."""
    if not is_row(rows[at], 4, 4):
        return False
    procedure, place, which, parts = rows[at]
    if not is_within(procedure, 0, len(layout) - 1) or not is_within(place, 0, len(layout[procedure][1]) - 1):
        return False
    if not is_within(which, 0, len(next_places(layout, procedure, place)) - 1):
        return False
    if not isinstance(parts, tuple) or not all(is_within(part, 0, at - 1) for part in parts):
        return False
    return [rows[part][:2] for part in parts] == list(next_places(layout, procedure, place)[which])


def next_places(layout, procedure, place):
    """The choices at a place: for each the places (procedure's index, place) from which the parts of a run go on."""
    kind = layout[procedure][1][place]
    if kind[0] == "end":
        return ((),)
    if kind[0] == "letter":
        return (((procedure, kind[2]),),)
    if kind[0] == "call":
        return (((kind[1], layout[kind[1]][0]), (procedure, kind[2])),)
    return tuple([((procedure, at),) for at in kind[1]])
