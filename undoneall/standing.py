"""What stands behind beginnings of runs, and whether any undoes another deed than the last one that stands."""

from undoneall.beginnings import Beginning
from undoneall.checks import checked, want_name
from undoneall.errors import BadBeginning, Wrong
from undoneall.graphs import graph_of, is_graph
from undoneall.heights import Heights
from undoneall.kinds import is_row, is_within
from undoneall.moves import wanted_moves
from undoneall.nets import EMPTY, Nets
from undoneall.places import laid_out
from undoneall.shrinking import shrunk_rules
from undoneall.walks import Walks


def is_beginning(program, name, thing):
    """Whether thing is a beginning of a run of a procedure."""
    return _beginning(program, name, thing).right


def _beginning(program, name, thing):
    """What is told of thing as the beginning of a run of a procedure of a checked program."""
    checked(program)
    procedure = want_name(program, name)
    return Beginning(laid_out(program), procedure, thing)


def stands(program, name, beginning):
    """The shrunk text of what stands behind the beginning of a run."""
    told = _beginning(program, name, beginning)
    if not told.right:
        raise BadBeginning("this is no beginning of a run")
    nets = Nets()
    return shrunk_rules(nets.text_of(told.net(nets, told.deeds_from(0, 0))))


def is_wrong(program, name, thing):
    """Whether thing is a beginning that goes wrong: that undoes another deed than the last one that stands."""
    told = _beginning(program, name, thing)
    return told.right and told.goes_wrong(Nets())


def keeps(program, name):
    """("keeps", graph) if no beginning goes wrong, else ("wrong", beginning) with one that does."""
    moves = wanted_moves(program, name)
    walks = Walks(moves)
    if walks.faults:
        return ("wrong", walks.wrong_beginning())
    return ("keeps", graph_of(moves, walks))


def is_keeping(program, name, thing):
    """Whether thing is a graph that shows that no beginning goes wrong."""
    return is_graph(wanted_moves(program, name), len(program[0]), thing)


def standing(program, name):
    """How many deeds stand at most behind a beginning, or a place that is come to again and again with more of them."""
    moves = wanted_moves(program, name)
    walks = Walks(moves)
    if walks.faults:
        raise Wrong(walks.wrong_beginning())
    return Heights(moves).told()


def is_endless(program, name, thing):
    """Whether thing is a beginning and a place that it comes to twice, so that what lies between leaves something."""
    told = _beginning(program, name, thing[0] if is_row(thing, 3, 3) else None)
    if not told.right or not is_within(thing[1], 0, len(told.deeds) - 1):
        return False
    _, leg, moves = thing
    last = len(told.deeds) - 1
    most = len(told.deeds[leg])
    if not is_within(moves, 0, most - 1 if leg == last else most):
        return False
    if told.place_behind(leg, moves) != told.place_behind(last, len(told.deeds[last])):
        return False
    nets = Nets()
    return told.net(nets, told.deeds_from(leg, moves)) != EMPTY
