"""People come and go: rules for one person less or more, and a house under way."""

from cornerbids.amounts import ONE, ZERO
from cornerbids.checks import MOST_PEOPLE, need_number, need_person, need_wishes
from cornerbids.comparing import need_as_many
from cornerbids.errors import NoPeople, NoPerson, NothingDone, NoWeight, TooMany
from cornerbids.outcomes import outcome_of
from cornerbids.rules import built
from cornerbids.terms import is_weight, replaced, with_terms


def frozen(rule, person, number):
    """The rule without a person, in the place of whose bids a fixed number stands."""
    need_person(rule, person)
    need_number(number)
    if rule.people == 1:
        raise NoPeople()
    return without_bid(rule, person, ("fixed", number))


def widened(rule, old, new):
    """The rule of one person more, whose term is the mean of the elder one and this person's bid."""
    if not (is_weight(old) and is_weight(new)):
        raise NoWeight()
    need_room(rule)
    return built(rule.people + 1, ("mean", ((old, rule.term), (new, ("bid", rule.people)))))


def split(rule, person):
    """The rule of one person more, in which each bid of a person is the mean of theirs and the new one's."""
    need_person(rule, person)
    need_room(rule)
    halves = ("mean", ((1, ("bid", person)), (1, ("bid", rule.people))))
    return built(rule.people + 1, with_terms(rule.term, replaced(own_bids(rule.people), (person,), halves)))


def merged(rule, one, other):
    """The rule without the person other, whose bids are those of one."""
    need_person(rule, one)
    need_person(rule, other)
    if other == one:
        raise NoPerson()
    return without_bid(rule, other, ("bid", one if one < other else one - 1))


def need_room(rule):
    if rule.people >= MOST_PEOPLE:
        raise TooMany(MOST_PEOPLE)


def own_bids(people):
    return tuple([("bid", person) for person in range(people)])


def without_bid(rule, person, term):
    """The rule without a person, in the place of whose bids a term stands; those behind are called one less."""
    bids = own_bids(rule.people - 1)
    return built(rule.people - 1, with_terms(rule.term, (*bids[:person], term, *bids[person:])))


class House:
    """A rule and wishes under way."""

    def __init__(self, rule, wishes):
        need_wishes(rule, wishes)
        # The pairs (rule, wishes) ahead of each deed that is not taken back, and that of now.
        self._stands = ((rule, wishes),)

    def wish(self, person, number):
        """The person wishes this from now on."""
        rule, wishes = self.standing()
        need_person(rule, person)
        need_number(number)
        self._go_on(rule, replaced(wishes, (person,), number))

    def comes(self, number, old, new):
        """One more person comes with this wish, whose bid has the weight new in the widened rule."""
        rule, wishes = self.standing()
        need_number(number)
        self._go_on(widened(rule, old, new), (*wishes, number))

    def goes(self, person):
        """The person goes, the rule being frozen at their wish."""
        rule, wishes = self.standing()
        need_person(rule, person)
        self._go_on(frozen(rule, person, wishes[person]), (*wishes[:person], *wishes[person + 1:]))

    def edits(self, rule):
        """This is the rule from now on."""
        elder, wishes = self.standing()
        need_as_many(elder, rule)
        self._go_on(rule, wishes)

    def _go_on(self, rule, wishes):
        self._stands = (*self._stands, (rule, wishes))

    def standing(self):
        """The pair of the rule and the wishes of now."""
        return self._stands[-1]

    def outcome(self):
        """The number that comes out now."""
        rule, wishes = self.standing()
        return outcome_of(rule, wishes)

    def pull(self, person):
        """The pair of what would come out if this person alone wished 0, and 1."""
        rule, wishes = self.standing()
        need_person(rule, person)
        return (outcome_of(rule, replaced(wishes, (person,), ZERO)), outcome_of(rule, replaced(wishes, (person,), ONE)))

    def back(self):
        """Takes back the last deed that is not taken back."""
        if self.depth() == 0:
            raise NothingDone()
        self._stands = self._stands[:-1]

    def depth(self):
        """How many deeds can be taken back."""
        return len(self._stands) - 1

    def copy(self):
        """Another house that goes on apart from here, and can go back likewise."""
        rule, wishes = self.standing()
        other = House(rule, wishes)
        other._stands = self._stands
        return other

    def trying(self, action):
        """What the action returns of this house, which stands as before then, whatever the action did."""
        kept = self._stands
        try:
            return action(self)
        finally:
            self._stands = kept
