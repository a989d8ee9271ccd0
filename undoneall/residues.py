"""What all ended runs of a procedure leave: a table of nets, or two runs that leave unlike ones."""

from undoneall.checks import checked, want_name
from undoneall.kinds import is_integer, is_row
from undoneall.leaving import Leaving, row_nets
from undoneall.least import least_choice, least_lengths
from undoneall.likeness import common_length
from undoneall.nets import Nets
from undoneall.places import laid_out
from undoneall.rows import are_rows
from undoneall.shrinking import shrunk_rules
from undoneall.straight import is_straight, rule_sizes
from undoneall.ways import rows_through, start_of, ways_from


def useful(program, name):
    """The places (procedure's index, place) that ended runs of a procedure pass, in whatever calls."""
    layout, procedure = _wanted(program, name)
    return tuple(sorted(ways_from(layout, least_lengths(layout), start_of(layout, procedure))))


def _wanted(program, name):
    """What places tells of a checked program, and the index of the procedure with a name."""
    checked(program)
    procedure = want_name(program, name)
    return (laid_out(program), procedure)


def residue(program, name):
    """What ended runs of a procedure leave: ("none",), ("one", net, table) or ("two", rows, rows)."""
    layout, procedure = _wanted(program, name)
    leaving = Leaving(layout, Nets())
    if not leaving.leaves_one(procedure):
        return unlike_runs(leaving, procedure)
    table = _table_of(leaving, procedure)
    texts = _shrunk_nets(leaving.nets, [net for _, net in table])
    return ("one", texts[leaving.net(procedure)], tuple([(*at, texts[net]) for at, net in table]))


def unlike_runs(leaving, procedure):
    """What residue returns for a procedure that has no net or several ones."""
    if not leaving.can_end(procedure):
        return ("none",)
    ways = ways_from(leaving.layout, leaving.lengths, start_of(leaving.layout, procedure))
    fork, which = leaving.uneven(procedure)
    least = least_choice(leaving.layout, leaving.lengths, fork)
    return ("two", *[rows_through(leaving.layout, leaving.lengths, ways, fork, choice) for choice in (least, which)])


def _table_of(leaving, procedure):
    """The useful places of a procedure, ascending, and the net of each of them."""
    ways = ways_from(leaving.layout, leaving.lengths, start_of(leaving.layout, procedure))
    return [(at, leaving.found[at]) for at in sorted(ways)]


def _shrunk_nets(nets, wanted):
    """The shrunk texts of some nets."""
    texts = {}
    # The longest one first: so what is too great is mostly found early.
    for _, net in sorted([(nets.sizes[net], net) for net in wanted], reverse=True):
        if net not in texts:
            texts[net] = shrunk_rules(nets.text_of(net))
    return texts


def is_table(program, name, thing):
    """Whether thing is a table of the nets of all useful places of a procedure."""
    layout, procedure = _wanted(program, name)
    leaving = Leaving(layout, Nets())
    table = _table_of(leaving, procedure)
    if not is_row(thing, len(table), len(table)) or not all(_is_entry(entry) for entry in thing):
        return False
    if [entry[:2] for entry in thing] != [at for at, _ in table] or leaving.uneven(procedure) is not None:
        return False
    wanted = {(net, entry[2]): True for (_, net), entry in zip(table, thing)}
    if any(leaving.nets.sizes[net] != rule_sizes(text)[-1] for net, text in wanted):
        return False
    return all(_is_word_of(leaving.nets, net, text) for net, text in wanted)


def _is_entry(thing):
    """Whether thing may be an entry of a table."""
    return is_row(thing, 3, 3) and is_integer(thing[0]) and is_integer(thing[1]) and is_straight(thing[2])


def _is_word_of(nets, net, text):
    """Whether a straight text's word, which is as long, is a net."""
    return common_length(nets.text_of(net), text) == nets.sizes[net]


def is_two(program, name, thing):
    """Whether thing is a pair of the rows of ended runs of a procedure that leave unlike nets."""
    layout, procedure = _wanted(program, name)
    if not is_row(thing, 2, 2):
        return False
    for rows in thing:
        if not are_rows(layout, rows) or rows[-1][:2] != start_of(layout, procedure):
            return False
    nets = Nets()
    left, right = [row_nets(layout, nets, rows, [len(rows) - 1])[-1] for rows in thing]
    return not nets.are_equal(left, right)
