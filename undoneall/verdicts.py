"""What runs of a program tell of steps: which bodies are never passed, which loops leave nothing."""

from undoneall.leaving import Leaving
from undoneall.nets import EMPTY, Nets
from undoneall.places import laid_out, layouts

# No procedure has this name, so nothing calls it.
NO_NAME = ""


class Verdicts:
    """What is told of a checked program, and of further procedures with these bodies; TooGreat if one is too great."""

    def __init__(self, program, further):
        letters, procedures = program
        self.many = len(procedures)
        self.layouts = layouts((letters, (*procedures, *[(NO_NAME, body) for body in further])))
        places = tuple([(layout.begin, tuple(layout.places)) for layout in self.layouts])
        self.leaving = Leaving(places, Nets())

    def is_passed(self, procedure, path, which):
        """Whether an ended run of a procedure goes into a body of the choose to which a path leads."""
        passed = self.leaving.passed(procedure)
        for fork in self.layouts[procedure].forks.get(path, []):
            part = (procedure, self.layouts[procedure].places[fork][1][which])
            if (procedure, fork) in passed and part in self.leaving.lengths:
                return True
        return False

    def is_still(self, number):
        """Whether the further procedure with an index among these leaves the empty word alone, or cannot end."""
        procedure = self.many + number
        if not self.leaving.can_end(procedure):
            return True
        return self.leaving.net(procedure) == EMPTY and self.leaving.uneven(procedure) is None


def keeps_words(program, other, procedure):
    """Whether a procedure leaves one word in a program, and whatever one leaves there it leaves in the other one."""
    nets = Nets()
    ahead = Leaving(laid_out(program), nets)
    behind = Leaving(laid_out(other), nets)
    if not ahead.leaves_one(procedure):
        return False
    for at in range(len(program[1])):
        if ahead.leaves_one(at):
            if not behind.leaves_one(at) or not nets.are_equal(ahead.net(at), behind.net(at)):
                return False
    return True
