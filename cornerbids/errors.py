"""The errors of the package. Their texts never tell a field: a field may be any object."""


class BidError(ValueError):
    """All errors of the package."""


class BadRule(BidError):
    def __init__(self, part):
        BidError.__init__(self, "this part of the rule is not as it must be")
        self.part = part


class NoBids(BidError):
    def __init__(self):
        BidError.__init__(self, "these are no bids: a tuple of a number for each person")


class NoOrder(BidError):
    def __init__(self):
        BidError.__init__(self, "this is no order of the persons")


class NoLot(BidError):
    def __init__(self):
        BidError.__init__(self, "this is no lot: a strictly ascending tuple of persons")


class NoWishes(BidError):
    def __init__(self):
        BidError.__init__(self, "these are no wishes: a tuple of a number for each person")


class NoPerson(BidError):
    def __init__(self):
        BidError.__init__(self, "this is no such person of the rule")


class NoBent(BidError):
    def __init__(self):
        BidError.__init__(self, "this is no line")


class NoNumber(BidError):
    def __init__(self):
        BidError.__init__(self, "this is no number that may stand here")


class NoSchedule(BidError):
    def __init__(self):
        BidError.__init__(self, "this is no schedule: a tuple of 1 to 12 persons, each at least once")


class NoPlay(BidError):
    def __init__(self):
        BidError.__init__(self, "this is no play of the schedule")


class NoTurn(BidError):
    def __init__(self):
        BidError.__init__(self, "the play is whole, nobody has a turn")


class BadPlan(BidError):
    def __init__(self, turn):
        BidError.__init__(self, "the plan gives no number at this turn")
        self.turn = turn


class NotPlain(BidError):
    def __init__(self):
        BidError.__init__(self, "the rule is not as plain as this needs")


class OtherPeople(BidError):
    def __init__(self):
        BidError.__init__(self, "the rules have not as many people")


class NoStretches(BidError):
    def __init__(self):
        BidError.__init__(self, "these are no stretches: a tuple of a pair of numbers for each person")


class NoPeople(BidError):
    def __init__(self):
        BidError.__init__(self, "these are not so many people as this needs")


class NoTable(BidError):
    def __init__(self):
        BidError.__init__(self, "this is no corner table")


class TooMany(BidError):
    def __init__(self, most):
        BidError.__init__(self, "these are more than there may be")
        self.most = most


class BadText(BidError):
    def __init__(self, at):
        BidError.__init__(self, "this sign cannot stand here")
        self.at = at


class NoWord(BidError):
    def __init__(self):
        BidError.__init__(self, "this is no line that the desk knows")


class NoName(BidError):
    def __init__(self, name):
        BidError.__init__(self, "there is no rule of this name")
        self.name = name


class NoneLed(BidError):
    def __init__(self):
        BidError.__init__(self, "no sitting is led")


class NothingDone(BidError):
    def __init__(self):
        BidError.__init__(self, "there is nothing to take back")


class NoChoices(BidError):
    def __init__(self):
        BidError.__init__(self, "these are no choices")


class NoLog(BidError):
    def __init__(self):
        BidError.__init__(self, "this is no log")


class NoMany(BidError):
    def __init__(self):
        BidError.__init__(self, "this is no number of moves")


class NoRules(BidError):
    def __init__(self):
        BidError.__init__(self, "these are no rules of as many people")


class NoWeight(BidError):
    def __init__(self):
        BidError.__init__(self, "these are no weights from 1 to 99")
