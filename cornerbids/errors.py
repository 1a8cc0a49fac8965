"""The errors of the package.

What an error is made with is kept by Python's own classes too, and by this errors are copied: so no other text is
given to these, and what an error says does not tell its field, which may be any object.
"""


class BidError(ValueError):
    """All errors of the package."""


class BadRule(BidError):
    def __init__(self, part):
        self.part = part

    def __str__(self):
        return "this part of the rule is not as it must be"


class NoBids(BidError):
    def __init__(self):
        BidError.__init__(self)

    def __str__(self):
        return "these are no bids: a tuple of a number for each person"


class NoOrder(BidError):
    def __init__(self):
        BidError.__init__(self)

    def __str__(self):
        return "this is no order of the persons"


class NoLot(BidError):
    def __init__(self):
        BidError.__init__(self)

    def __str__(self):
        return "this is no lot that may stand here: a strictly ascending tuple of persons"


class NoWishes(BidError):
    def __init__(self):
        BidError.__init__(self)

    def __str__(self):
        return "these are no wishes: a tuple of a number for each person"


class NoPerson(BidError):
    def __init__(self):
        BidError.__init__(self)

    def __str__(self):
        return "this is no such person of the rule"


class NoBent(BidError):
    def __init__(self):
        BidError.__init__(self)

    def __str__(self):
        return "this is no line"


class NoNumber(BidError):
    def __init__(self):
        BidError.__init__(self)

    def __str__(self):
        return "this is no number that may stand here"


class NoSchedule(BidError):
    def __init__(self):
        BidError.__init__(self)

    def __str__(self):
        return "this is no schedule: a tuple of 1 to 12 persons, each at least once"


class NoPlay(BidError):
    def __init__(self):
        BidError.__init__(self)

    def __str__(self):
        return "this is no play of the schedule"


class NoTurn(BidError):
    def __init__(self):
        BidError.__init__(self)

    def __str__(self):
        return "the play is whole, nobody has a turn"


class BadPlan(BidError):
    def __init__(self, turn):
        self.turn = turn

    def __str__(self):
        return "the plan gives no number at this turn"


class NotPlain(BidError):
    def __init__(self):
        BidError.__init__(self)

    def __str__(self):
        return "the rule is not as plain as this needs"


class OtherPeople(BidError):
    def __init__(self):
        BidError.__init__(self)

    def __str__(self):
        return "the rules have not as many people"


class NoStretches(BidError):
    def __init__(self):
        BidError.__init__(self)

    def __str__(self):
        return "these are no stretches: a tuple of a pair of numbers for each person"


class NoPeople(BidError):
    def __init__(self):
        BidError.__init__(self)

    def __str__(self):
        return "these are not so many people as this needs"


class NoTable(BidError):
    def __init__(self):
        BidError.__init__(self)

    def __str__(self):
        return "this is no corner table"


class TooMany(BidError):
    def __init__(self, most):
        self.most = most

    def __str__(self):
        return "these are more than there may be"


class BadText(BidError):
    def __init__(self, at):
        self.at = at

    def __str__(self):
        return "this sign cannot stand here"


class NoWord(BidError):
    def __init__(self):
        BidError.__init__(self)

    def __str__(self):
        return "this is no line that the desk knows"


class NoName(BidError):
    def __init__(self, name):
        self.name = name

    def __str__(self):
        return "there is no rule of this name"


class NoneLed(BidError):
    def __init__(self):
        BidError.__init__(self)

    def __str__(self):
        return "no sitting is led"


class NothingDone(BidError):
    def __init__(self):
        BidError.__init__(self)

    def __str__(self):
        return "there is nothing to take back"


class NoChoices(BidError):
    def __init__(self):
        BidError.__init__(self)

    def __str__(self):
        return "these are no choices"


class NoLog(BidError):
    def __init__(self):
        BidError.__init__(self)

    def __str__(self):
        return "this is no log"


class NoMany(BidError):
    def __init__(self):
        BidError.__init__(self)

    def __str__(self):
        return "this is no number of moves"


class NoRules(BidError):
    def __init__(self):
        BidError.__init__(self)

    def __str__(self):
        return "these are no rules of as many people"


class NoWeight(BidError):
    def __init__(self):
        BidError.__init__(self)

    def __str__(self):
        return "these are no weights from 1 to 99"
