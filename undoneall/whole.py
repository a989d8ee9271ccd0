"""What the main procedures of texts of programs leave."""

from undoneall.checks import checked
from undoneall.errors import Unlike
from undoneall.leaving import Leaving
from undoneall.likeness import common_length
from undoneall.nets import Nets
from undoneall.places import laid_out
from undoneall.programs import read_program
from undoneall.residues import unlike_runs
from undoneall.shrinking import shrunk_rules

MAIN = 0


def settled(text):
    """What the main procedure of a text's program leaves: ("none",), ("one", straight) or ("two", rows, rows)."""
    return _settled(Leaving(laid_out(_read(text)), Nets()))


def _read(text):
    """The checked program of a text."""
    program = read_program(text)
    checked(program)
    return program


def _settled(leaving):
    """What the main procedure leaves, by what runs leave."""
    if leaving.leaves_one(MAIN):
        return ("one", shrunk_rules(leaving.nets.text_of(leaving.net(MAIN))))
    return unlike_runs(leaving, MAIN)


def compared(text, other):
    """Whether the main procedures of two texts leave the same word, where they differ, or which leaves not just one."""
    program = _read(text)
    second = _read(other)
    if program[0] != second[0]:
        raise Unlike("the programs have unlike letters")
    layouts = [laid_out(program), laid_out(second)]
    words = []
    for at, layout in enumerate(layouts):
        leaving = Leaving(layout, Nets())
        if not leaving.leaves_one(MAIN):
            return ("not one", at)
        words.append(shrunk_rules(leaving.nets.text_of(leaving.net(MAIN))))
    if words[0] == words[1]:
        return ("same",)
    return ("unlike", common_length(words[0], words[1]))
