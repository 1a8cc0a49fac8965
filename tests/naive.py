"""What the document says, told once more with fractions.Fraction and by trying all: slow, and apart from the program."""

from fractions import Fraction
from itertools import combinations


def fractions_of(pairs):
    return [Fraction(top, bottom) for top, bottom in pairs]


def pair(fraction):
    fraction = Fraction(fraction)
    return (fraction.numerator, fraction.denominator)


def told(term, bids):
    word = term[0]
    if word == "bid":
        return bids[term[1]]
    if word == "fixed":
        return Fraction(*term[1])
    if word == "mean":
        whole = sum(weight for weight, _ in term[1])
        return sum(weight * told(inner, bids) for weight, inner in term[1]) / whole
    if word == "between":
        return sorted([Fraction(*term[1]), Fraction(*term[2]), told(term[3], bids)])[1]
    numbers = sorted([told(inner, bids) for inner in term[-1]], reverse=True)
    k = {"least": len(numbers), "greatest": 1}.get(word) or term[1]
    return numbers[k - 1]


def value(rule, bids):
    return told(rule.term, fractions_of(bids))


def all_lots(people):
    return [lot for many in range(people + 1) for lot in combinations(range(people), many)]


def corner(rule, lot):
    return told(rule.term, [Fraction(int(person in lot)) for person in range(rule.people)])


def behind(rule, wishes, bids, later):
    """outcome_behind as the first fact tells it: over all lots of later, the least of number and wishes, the greatest."""
    wanted = fractions_of(wishes)
    found = []
    for many in range(len(later) + 1):
        for lot in combinations(later, many):
            given = fractions_of(bids)
            for person in later:
                given[person] = Fraction(int(person in lot))
            found.append(min([told(rule.term, given)] + [wanted[person] for person in lot]))
    return max(found)


def outcome(rule, wishes):
    return behind(rule, wishes, wishes, tuple(range(rule.people)))


def is_behind(rule, wishes, bids, later, number):
    """outcome_behind as 3.2 itself tells it."""
    wanted = fractions_of(wishes)
    more = fractions_of(bids)
    least = fractions_of(bids)
    for person in later:
        more[person] = Fraction(int(wanted[person] > number))
        least[person] = Fraction(int(wanted[person] >= number))
    return told(rule.term, more) <= number <= told(rule.term, least)


def within(rule, wishes, stretches):
    """outcome_within: as the first fact, each person of a lot bidding high, all others low."""
    wanted = fractions_of(wishes)
    found = []
    for lot in all_lots(rule.people):
        given = [Fraction(*pair[person in lot]) for person, pair in enumerate(stretches)]
        found.append(min([told(rule.term, given)] + [wanted[person] for person in lot]))
    return max(found)


def is_within(rule, wishes, stretches, number):
    """outcome_within as 9.1 itself tells it."""
    wanted = fractions_of(wishes)
    more = [Fraction(*pair[wish > number]) for pair, wish in zip(stretches, wanted)]
    least = [Fraction(*pair[wish >= number]) for pair, wish in zip(stretches, wanted)]
    return told(rule.term, more) <= number <= told(rule.term, least)


def words_in(term):
    """The words of a term and of all terms in it."""
    word = term[0]
    if word in ("bid", "fixed"):
        return {word}
    if word == "between":
        return {word} | words_in(term[3])
    inner = [part[1] for part in term[1]] if word == "mean" else term[-1]
    return {word}.union(*(words_in(part) for part in inner))
