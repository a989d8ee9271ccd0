"""Runs of programs, told by rows: which objects are such rows, how long runs are, what they leave."""

from undoneall.checks import checked, want_name
from undoneall.errors import BadLimit, BadRun, TooGreat
from undoneall.kinds import is_within
from undoneall.least import least_around, least_lengths, least_rows
from undoneall.places import laid_out
from undoneall.rows import are_rows
from undoneall.rules import NOTHING, trimmed
from undoneall.small import words_within
from undoneall.straight import MOST_RULES

MOST_STEPS = 60


def is_run(program, thing):
    """Whether thing is the rows of a run of a procedure of a checked program, from its begin on."""
    checked(program)
    return _is_run(laid_out(program), thing)


def _is_run(layout, thing):
    """Whether thing is the rows of a run from a procedure's begin on, for what places tells of a program."""
    return are_rows(layout, thing) and thing[-1][1] == layout[thing[-1][0]][0]


def _wanted_layout(program, rows):
    """What places tells of a checked program; BadRun unless rows are the rows of a run of it."""
    checked(program)
    layout = laid_out(program)
    if not _is_run(layout, rows):
        raise BadRun("these are no rows of a run")
    return layout


def run_length(program, rows):
    """How many places the run that rows tell passes."""
    _wanted_layout(program, rows)
    lengths = []
    for row in rows:
        lengths.append(1 + sum([lengths[part] for part in row[3]]))
    return lengths[-1]


def run_text(program, rows):
    """A straight text of the letters of the run that rows tell."""
    layout = _wanted_layout(program, rows)
    rules = [NOTHING]
    words = []
    for procedure, place, _, parts in rows:
        found = [words[part] for part in parts]
        kind = layout[procedure][1][place]
        if kind[0] == "letter":
            found.insert(0, len(rules))
            rules.append(("letter", kind[1]))
        if len(found) > 1:
            rules.append(("pair", found[0], found[1]))
            found = [len(rules) - 1]
        words.append(found[0] if found else 0)
    text = tuple(trimmed(rules[:words[-1] + 1]))
    if len(text) > MOST_RULES:
        raise TooGreat("the text of this run has too many rules")
    return text if text else (NOTHING,)


def least_run(program, name):
    """The rows of an ended run of a procedure that passes as few places as any, None if no run of it ends."""
    checked(program)
    procedure = want_name(program, name)
    layout = laid_out(program)
    lengths = least_lengths(layout)
    start = (procedure, layout[procedure][0])
    return least_rows(layout, lengths, start) if start in lengths else None


def small_words(program, name, most):
    """The reduced words that ended runs of a procedure leave that pass at most so many places."""
    checked(program)
    procedure = want_name(program, name)
    if not is_within(most, 0, MOST_STEPS):
        raise BadLimit("this is no number of places from 0 to 60")
    layout = laid_out(program)
    words = words_within(layout, (procedure, layout[procedure][0]), most)
    return tuple(sorted({reduced_word(word) for word in words}))


def reduced_word(word):
    """The word without letters that stand beside their opposites."""
    kept = []
    for x in word:
        if kept and kept[-1] == -x:
            kept.pop()
        else:
            kept.append(x)
    return tuple(kept)
