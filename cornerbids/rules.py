"""Rules: what makes one number of everybody's bids."""

from cornerbids.amounts import ONE, minus
from cornerbids.checks import are_persons, is_people, need_bids
from cornerbids.errors import BadRule, NoOrder
from cornerbids.terms import inner_terms, is_term, told_by, with_inner


class Rule:
    """A term for so many people."""

    def __init__(self, people, term):
        if not is_people(people):
            raise BadRule("people")
        if not is_term(term, people):
            raise BadRule("term")
        self.people = people
        self.term = term

    def __eq__(self, other):
        return isinstance(other, Rule) and self.people == other.people and self.term == other.term


def built(people, term):
    """The rule of a right term of any size: only callers are held to the bounds of depth and many."""
    rule = Rule(people, ("bid", 0))
    rule.term = term
    return rule


def value(rule, bids):
    """The number that the rule tells if the persons bid these."""
    need_bids(rule, bids)
    return told_by(rule.term, bids)


def renamed(rule, order):
    """The rule in which person k is called order[k]."""
    if not (are_persons(order, rule.people) and sorted(order) == list(range(rule.people))):
        raise NoOrder()
    return built(rule.people, renamed_term(rule.term, order))


def renamed_term(term, order):
    if term[0] == "bid":
        return ("bid", order[term[1]])
    return with_inner(term, tuple([renamed_term(inner, order) for inner in inner_terms(term)]))


def mirrored(rule):
    """The rule seen from the other end: of turned bids it tells the turned number."""
    return built(rule.people, mirrored_term(rule.term))


def mirrored_term(term):
    word = term[0]
    inner = tuple([mirrored_term(part) for part in inner_terms(term)])
    if word == "fixed":
        return ("fixed", minus(ONE, term[1]))
    if word == "least":
        return ("greatest", inner)
    if word == "greatest":
        return ("least", inner)
    if word == "ranked":
        return ("ranked", len(inner) + 1 - term[1], inner)
    if word == "between":
        return ("between", minus(ONE, term[2]), minus(ONE, term[1]), inner[0])
    return with_inner(term, inner)
