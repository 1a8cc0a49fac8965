"""Terms: what they are, what stands in them, and what comes of them."""

from cornerbids.amounts import greater, lesser, mean_of
from cornerbids.checks import are_bounds, is_integer, is_number, is_person

MOST_PARTS = 8
MOST_WEIGHT = 99
MOST_DEEP = 8
MOST_TERMS = 60


def is_term(thing, people):
    """Whether a caller may make a rule for so many people of a thing."""
    level = [thing]
    many = 0
    depth = 0
    # Level by level, so that a thing of any depth is judged without recursion.
    while level:
        depth += 1
        many += len(level)
        if depth > MOST_DEEP or many > MOST_TERMS:
            return False
        if not all([is_formed(term, people) for term in level]):
            return False
        level = [inner for term in level for inner in inner_terms(term)]
    return True


def is_formed(thing, people):
    """Whether a thing has the form of a term, whatever stands in the places of its own terms."""
    if not (isinstance(thing, tuple) and len(thing) >= 2 and isinstance(thing[0], str)):
        return False
    word = thing[0]
    if word == "ranked":
        return len(thing) == 3 and are_some(thing[2]) and is_integer(thing[1]) and 1 <= thing[1] <= len(thing[2])
    if word == "between":
        return len(thing) == 4 and are_bounds(thing[1], thing[2])
    if len(thing) > 2:
        return False
    if word == "bid":
        return is_person(thing[1], people)
    if word == "fixed":
        return is_number(thing[1])
    if word == "mean":
        return are_some(thing[1]) and all([is_weighted(part) for part in thing[1]])
    return word in ("least", "greatest") and are_some(thing[1])


def are_some(thing):
    return isinstance(thing, tuple) and 1 <= len(thing) <= MOST_PARTS


def is_weighted(thing):
    """Whether a thing is a pair of a weight and something."""
    return isinstance(thing, tuple) and len(thing) == 2 and is_weight(thing[0])


def is_weight(thing):
    return is_integer(thing) and 1 <= thing <= MOST_WEIGHT


def inner_terms(term):
    """The terms that stand directly in a term."""
    word = term[0]
    if word in ("bid", "fixed"):
        return ()
    if word == "mean":
        return tuple([inner for _, inner in term[1]])
    if word == "between":
        return (term[3],)
    return term[-1]


def with_inner(term, inner):
    """The term with these in the places of those that stand directly in it."""
    word = term[0]
    if word in ("bid", "fixed"):
        return term
    if word == "mean":
        return ("mean", tuple([(part[0], new) for part, new in zip(term[1], inner)]))
    if word == "between":
        return ("between", term[1], term[2], inner[0])
    return (*term[:-1], inner)


def with_terms(term, own):
    """The term with the own term of each person in the places of the bids."""
    if term[0] == "bid":
        return own[term[1]]
    return with_inner(term, tuple([with_terms(inner, own) for inner in inner_terms(term)]))


def worked(term, bids, ways):
    """What comes of a term, a bid being whatever the ways can put together: numbers, or lines."""
    word = term[0]
    if word == "bid":
        return bids[term[1]]
    if word == "fixed":
        return ways.fixed(term[1])
    inner = [worked(part, bids, ways) for part in inner_terms(term)]
    if word == "mean":
        return ways.mean([weight for weight, _ in term[1]], inner)
    if word == "between":
        return ways.greater(ways.fixed(term[1]), ways.lesser(ways.fixed(term[2]), inner[0]))
    if word == "least":
        return least_of(inner, ways)
    if word == "greatest":
        return greatest_of(inner, ways)
    return kth_greatest(term[1], inner, ways)


def least_of(things, ways):
    found = things[0]
    for thing in things[1:]:
        found = ways.lesser(found, thing)
    return found


def greatest_of(things, ways):
    found = things[0]
    for thing in things[1:]:
        found = ways.greater(found, thing)
    return found


def kth_greatest(k, things, ways):
    """The k-th greatest, by lesser and greater alone: of two lines neither need be the greater one throughout."""
    for _ in range(k - 1):
        top = things[0]
        left = []
        for thing in things[1:]:
            left.append(ways.lesser(top, thing))
            top = ways.greater(top, thing)
        things = left
    return greatest_of(things, ways)


class Numbers:
    """The ways of numbers."""

    def fixed(self, number):
        return number

    def mean(self, weights, numbers):
        return mean_of(weights, numbers)

    def lesser(self, one, other):
        return lesser(one, other)

    def greater(self, one, other):
        return greater(one, other)


def told_by(term, bids):
    """The number that a term tells of bids."""
    return worked(term, bids, Numbers())


def replaced(bids, lot, bid):
    """The bids with this one in the places of those of a lot."""
    return tuple([bid if person in lot else elder for person, elder in enumerate(bids)])


def mixed(lows, highs, lot):
    """The high ones of those of a lot, the low ones of all others."""
    return tuple([highs[person] if person in lot else low for person, low in enumerate(lows)])
