"""Steps on programs that keep what their procedures leave: one, many in sequence, and all that make a program less."""

from undoneall.checks import checked
from undoneall.edits import EDITS, all_statements, edited, has_return, place_of, spliced, with_body
from undoneall.errors import BadLog, NotLet
from undoneall.kinds import is_row, is_within
from undoneall.verdicts import Verdicts, keeps_words

MOST_STEPS = 60


def stepped(program, step):
    """The program behind a step; NotLet(0) if it is none or is not let."""
    checked(program)
    other = _behind(program, step)
    if other is None:
        raise NotLet(0)
    return other


def replayed(program, log):
    """The program behind all steps of a log; NotLet with the index of the first that is none or is not let."""
    checked(program)
    if not is_row(log, 0, MOST_STEPS):
        raise BadLog("this is no log of steps")
    for index, step in enumerate(log):
        program = _behind(program, step)
        if program is None:
            raise NotLet(index)
    return program


def _behind(program, step):
    """The program behind a step, None if it is no step or is not let."""
    if not is_row(step, 3, 4) or not isinstance(step[0], str) or not isinstance(step[1], str):
        return None
    names = [procedure[0] for procedure in program[1]]
    if step[1] not in names or len(step) != (4 if step[0] == "prune" else 3):
        return None
    procedure = names.index(step[1])
    if step[0] == "exchange":
        return _exchanged(program, procedure, step[2])
    if step[0] == "prune":
        return _pruned(program, procedure, step[2], step[3])
    if step[0] == "still":
        return _stilled(program, procedure, step[2])
    return edited(program, step[0], procedure, step[2]) if step[0] in EDITS else None


def _exchanged(program, procedure, body):
    """The program with another body of a procedure, None unless all keep the one word that they leave."""
    other = with_body(program, procedure, body)
    return other if other is not None and keeps_words(program, other, procedure) else None


def _statement(program, procedure, path):
    """The statement to which a path leads in a procedure, None if it leads to none."""
    place = place_of(program[1][procedure][1], path)
    return None if place is None else place[0][place[1]]


def _pruned(program, procedure, path, which):
    """The program without a body of a choose that is never passed, None if it is or does not fit."""
    choose = _statement(program, procedure, path)
    if choose is None or choose[0] != "choose" or not is_prunable(choose, which):
        return None
    if Verdicts(program, ()).is_passed(procedure, path, which):
        return None
    bodies = (*choose[1][:which], *choose[1][which + 1:])
    return with_body(program, procedure, spliced(program[1][procedure][1], path, 1, (("choose", bodies),)))


def is_prunable(choose, which):
    """Whether which is the index of a body of a choose that has more than two."""
    return len(choose[1]) > 2 and is_within(which, 0, len(choose[1]) - 1)


def _stilled(program, procedure, path):
    """The program without a loop that leaves nothing, None if it leaves something or does not fit."""
    loop = _statement(program, procedure, path)
    if loop is None or loop[0] != "loop" or has_return(loop[1]) or not Verdicts(program, (loop[1],)).is_still(0):
        return None
    return with_body(program, procedure, spliced(program[1][procedure][1], path, 1, ()))


def tidied(program):
    """The program behind steps cancel, front, rear, prune and still, as long as any is let, and these steps."""
    checked(program)
    log = []
    while len(log) < MOST_STEPS:
        step = _plain_step(program) or _judged_step(program)
        if step is None:
            break
        program = _behind(program, step)
        log.append(step)
    return (program, tuple(log))


def _plain_step(program):
    """A step cancel, front or rear that is let, None if there is none."""
    for name, path, statement in all_statements(program):
        for word in ("front", "rear") if statement[0] == "choose" else ("cancel",):
            step = (word, name, path)
            if _behind(program, step) is not None:
                return step
    return None


def _judged_step(program):
    """A step prune or still that is let, None if there is none."""
    statements = all_statements(program)
    loops = [entry for entry in statements if entry[2][0] == "loop" and not has_return(entry[2][1])]
    chooses = [entry for entry in statements if entry[2][0] == "choose" and len(entry[2][1]) > 2]
    if not loops and not chooses:
        return None
    verdicts = Verdicts(program, [entry[2][1] for entry in loops])
    names = [procedure[0] for procedure in program[1]]
    for number, (name, path, _) in enumerate(loops):
        if verdicts.is_still(number):
            return ("still", name, path)
    for name, path, choose in chooses:
        for which in range(len(choose[1])):
            if not verdicts.is_passed(names.index(name), path, which):
                return ("prune", name, path, which)
    return None
