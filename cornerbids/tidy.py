"""Rules tidied: shorter terms that tell the same for all bids; and how large a rule is."""

from cornerbids.amounts import ONE, ZERO, greater, lesser
from cornerbids.rules import built
from cornerbids.terms import inner_terms, told_by, with_inner


def tidied(rule):
    """The rule with each term, from the innermost ones outward, put more shortly until no step fits."""
    return built(rule.people, tidied_term(rule.term))


def tidied_term(term):
    term = with_inner(term, tuple([tidied_term(inner) for inner in inner_terms(term)]))
    found = stepped(term)
    while found is not None:
        term = found
        found = stepped(term)
    return term


def stepped(term):
    """What comes of a term, its own terms being tidied, by the first step that fits, or None."""
    for step in STEPS:
        found = step(term)
        if found is not None:
            return found
    return None


# The steps, in their order: each gives what comes of a term, or None if it does not fit.

def lone_term(term):
    if term[0] in ("mean", "least", "greatest", "ranked") and len(inner_terms(term)) == 1:
        return inner_terms(term)[0]
    return None


def fixed_alone(term):
    inner = inner_terms(term)
    if inner and all([part[0] == "fixed" for part in inner]):
        return ("fixed", told_by(term, ()))
    return None


def ranked_end(term):
    if term[0] == "ranked" and term[1] == 1:
        return ("greatest", term[2])
    if term[0] == "ranked" and term[1] == len(term[2]):
        return ("least", term[2])
    return None


def idle_bounds(term):
    if term[0] == "between" and term[1] == term[2]:
        return ("fixed", term[1])
    if term[0] == "between" and term[1:3] == (ZERO, ONE):
        return term[3]
    return None


def one_inside_another(term):
    if not is_end(term):
        return None
    for at, inner in enumerate(term[1]):
        if inner[0] == term[0]:
            return (term[0], (*term[1][:at], *inner[1], *term[1][at + 1:]))
    return None


def equal_terms(term):
    if not is_end(term):
        return None
    # All pairs at once: no other step fits until the last one is gone.
    kept = []
    for inner in term[1]:
        if inner not in kept:
            kept.append(inner)
    return (term[0], tuple(kept)) if len(kept) < len(term[1]) else None


def two_fixed(term):
    if not is_end(term):
        return None
    places = [at for at, inner in enumerate(term[1]) if inner[0] == "fixed"]
    if len(places) < 2:
        return None
    one, other = places[:2]
    pick = lesser if term[0] == "least" else greater
    number = pick(term[1][one][1], term[1][other][1])
    return (term[0], (*term[1][:one], ("fixed", number), *term[1][one + 1:other], *term[1][other + 1:]))


def fixed_end(term):
    if not is_end(term):
        return None
    deciding, dull = (ZERO, ONE) if term[0] == "least" else (ONE, ZERO)
    if ("fixed", deciding) in term[1]:
        return ("fixed", deciding)
    if ("fixed", dull) in term[1]:
        return (term[0], tuple([inner for inner in term[1] if inner != ("fixed", dull)]))
    return None


STEPS = (
    lone_term,
    fixed_alone,
    ranked_end,
    idle_bounds,
    one_inside_another,
    equal_terms,
    two_fixed,
    fixed_end,
)


def is_end(term):
    """Whether a term tells one of both ends of what its terms tell."""
    return term[0] in ("least", "greatest")


def size(rule):
    """The number of terms, each counted as often as it stands."""
    return sum(words_of(rule).values())


def depth(rule):
    """How deep the terms are nested."""
    deep = 0
    level = [rule.term]
    while level:
        deep += 1
        level = below(level)
    return deep


def words_of(rule):
    """The dict from the words of the terms to how often they stand."""
    found = {}
    level = [rule.term]
    while level:
        for term in level:
            found[term[0]] = found.get(term[0], 0) + 1
        level = below(level)
    return found


def below(terms):
    """The terms that stand directly in these."""
    return [inner for term in terms for inner in inner_terms(term)]
