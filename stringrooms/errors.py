"""The errors that the package raises; each one has its values as attributes."""


class PlanError(ValueError):
    """The kind of all errors of the package."""


class NotPlan(PlanError):
    """A value is no plan: a rule is broken at a place."""

    def __init__(self, rule, place):
        self.rule = rule
        self.place = place


class NotWalk(PlanError):
    """A value is no walk: it fails at a place."""

    def __init__(self, place):
        self.place = place


class NotRound(PlanError):
    """A value is no round: it fails at a place."""

    def __init__(self, place):
        self.place = place


class NotRoom(PlanError):
    """A value is no room: a rule is broken."""

    def __init__(self, rule):
        self.rule = rule


class NotPoly(PlanError):
    """A value is no polynomial of the kind that is asked for."""


class NotLot(PlanError):
    """A value is no lot, as a word tells."""

    def __init__(self, word):
        self.word = word


class NotMap(PlanError):
    """A value is no map or no renaming: it fails at a place."""

    def __init__(self, place):
        self.place = place


class NotPaper(PlanError):
    """A value is no claim or no closed set, as a word tells."""

    def __init__(self, word):
        self.word = word


class NotText(PlanError):
    """A text can't be read: it fails at a word of a line."""

    def __init__(self, line, word):
        self.line = line
        self.word = word


class NotName(PlanError):
    """A value is no name of what is asked for."""

    def __init__(self, name):
        self.name = name


class NoWay(PlanError):
    """What is asked for can't be done."""


class Endless(PlanError):
    """What is asked for would not end."""


class Unlike(PlanError):
    """Two things do not fit one another."""


class TooGreat(PlanError):
    """What would be told is greater than the number most."""

    def __init__(self, most):
        self.most = most
