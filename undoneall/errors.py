"""The errors of the package: one class for each kind of failure, all directly under DeedError."""


class DeedError(ValueError):
    """Any error of the package."""


class BadProgram(DeedError):
    """The object is no program."""


class NotChecked(DeedError):
    """The program has a fault; what is check's result for it."""

    def __init__(self, what):
        super().__init__("the program has a fault")
        self.what = what


class BadText(DeedError):
    """The object is no text of a program; place tells where it goes wrong."""

    def __init__(self, place):
        super().__init__("this is no text of a program")
        self.place = place


class BadRun(DeedError):
    """The object is no rows of a run."""


class BadName(DeedError):
    """The object is no name of a procedure of the program."""


class BadLimit(DeedError):
    """The object is no number of places within the bounds."""


class TooGreat(DeedError):
    """What was asked for goes beyond a bound."""


class BadWord(DeedError):
    """The object is no word."""


class BadStraight(DeedError):
    """The object is no straight text."""


class BadPlace(DeedError):
    """The object is no place within the word."""


class BadCount(DeedError):
    """The object is no number of times that can be asked for."""


class BadBeginning(DeedError):
    """The object is no beginning of a run."""


class NotOne(DeedError):
    """A called procedure leaves several rows; name is its name."""

    def __init__(self, name):
        super().__init__("a called procedure leaves several rows")
        self.name = name


class Wrong(DeedError):
    """A run undoes another deed than the last one; beginning is the beginning of one."""

    def __init__(self, beginning):
        super().__init__("a run undoes another deed than the last one that stands")
        self.beginning = beginning


class NotLet(DeedError):
    """A step is none or is not let; index tells which of them."""

    def __init__(self, index):
        super().__init__("a step is not let")
        self.index = index


class BadLog(DeedError):
    """The object is no log of steps."""


class Unlike(DeedError):
    """Two programs have unlike letters."""
