"""Rules by chance from a fixed seed, and objects of all kinds that stand where they may not."""

import random
from fractions import Fraction
from itertools import combinations

from cornerbids.errors import BadRule, BidError, NoBids
from cornerbids.rules import Rule

from tests.naive import pair

MEAN3 = Rule(3, ("mean", ((1, ("bid", 0)), (1, ("bid", 1)), (1, ("bid", 2)))))
MEAN2 = Rule(2, ("mean", ((1, ("bid", 0)), (1, ("bid", 1)))))
WORDS = ("mean", "least", "greatest", "ranked", "between", "mean", "bid", "fixed")


def chance(seed):
    return random.Random(seed)


def number(rng, fine=6):
    bottom = rng.randint(1, fine)
    return pair(Fraction(rng.randint(0, bottom), bottom))


def numbers(rng, many, fine=6):
    return tuple(number(rng, fine) for _ in range(many))


def term(rng, people, depth):
    word = rng.choice(WORDS) if depth > 1 else rng.choice(("bid", "bid", "bid", "fixed"))
    if word == "bid":
        return ("bid", rng.randrange(people))
    if word == "fixed":
        return ("fixed", number(rng))
    if word == "between":
        low, high = sorted([Fraction(*number(rng)), Fraction(*number(rng))])
        return ("between", pair(low), pair(high), term(rng, people, depth - 1))
    inner = tuple(term(rng, people, depth - 1) for _ in range(rng.randint(1, 4)))
    if word == "mean":
        return ("mean", tuple((rng.randint(1, 5), part) for part in inner))
    if word == "ranked":
        return ("ranked", rng.randint(1, len(inner)), inner)
    return (word, inner)


def rule(rng, people=None, depth=3):
    """A rule whose term begins with a word that has inner terms, so that most of them are not dull."""
    people = people or rng.randint(1, 6)
    while True:
        try:
            made = Rule(people, term(rng, people, depth))
        except BadRule:
            # More than 60 terms: another one.
            continue
        if depth == 1 or made.term[0] not in ("bid", "fixed") or rng.random() < 0.1:
            return made


def rules(seed, many, people=None, depth=3):
    rng = chance(seed)
    return [(rng, rule(rng, people, depth)) for _ in range(many)]


def unchecked(people, made):
    """A rule beyond the bounds of 8 deep and 60 terms, as functions return some."""
    wide = Rule(people, ("bid", 0))
    wide.term = made
    return wide


def deep_term(depth):
    """A term so deep in which persons 0 and 1 stand."""
    made = ("bid", 0)
    for at in range(depth - 1):
        made = (("least", (made,)), ("mean", ((1, made), (2, ("bid", 1)))), ("between", (0, 1), (1, 1), made),
                ("ranked", 1, (made, ("fixed", (1, 7)))))[at % 4]
    return made


def nested(made, depth, around):
    for _ in range(depth):
        made = around(made)
    return made


# None of these is right where an integer, a number, a tuple of some, a lot or a term stands, in whatever place.
ODD = [
    None, True, False, -1, -(10 ** 199), "", "odd", "0", "a\n\t~", b"", b"bid", b"odd", [], {}, {"a": [1]},
    [0], ["bid", 0], [(0, 1)], [[0, 1]], {0: (0, 1)}, {(0, 1): 1}, (None,), (True,), ("bid",), ("bid", True), ((),),
    (1, 0), (0, 0), (-1, 1), (2, 1), (1, -1), (-1, -1), (4, 2), (0, -1), (1, 1, 1), (True, 1), (1, True), (False, True),
    (10 ** 199, 1), ("0", "1"), (b"0", 1), ([0], [1]), ((0,), 1), [0, 1], [1, 2], range(2), range(0), bytearray(b"ab"),
    memoryview(b"ab"), len, int, tuple, abs, object(), Ellipsis, NotImplemented, slice(1), ValueError("x"), NoBids(),
    BadRule("term"), BidError, Rule, MEAN2, MEAN3, [MEAN2], (MEAN2, MEAN3), chance, lambda: None, iter([]), zip(), {}.items(),
    nested(0, 39, lambda made: (made,)), nested("bid", 39, lambda made: [made]), nested(None, 39, lambda made: {"a": made}),
    nested(("bid", 0), 19, lambda made: ("least", (made,))), nested((0, 1), 38, lambda made: (made, 1)),
    (0,) * 9999, [(0, 1)] * 3333, (((0, 1),) * 3000), tuple(range(9999)), {at: None for at in range(4000)},
]


def spoiled(right):
    """A right value with something odd in the place of it, or of one object within it."""
    found = list(ODD)
    if isinstance(right, tuple):
        found.append(list(right))
        if len(right) == 2 and all(type(part) is int for part in right):
            found.append((right[0] * 2, right[1] * 2))
        for at, part in enumerate(right):
            found.extend((*right[:at], wrong, *right[at + 1:]) for wrong in spoiled(part))
    elif isinstance(right, int):
        found.append(bool(right))
    return found


def table(rng, people, fine=6):
    """A corner table by chance."""
    found = {}
    for many in range(people + 1):
        for lot in combinations(range(people), many):
            numbers_of = [found[lot[:at] + lot[at + 1:]] for at in range(many)]
            # Mostly no more than a lot with one person less has, so that some people are idle.
            if not numbers_of or rng.random() < 0.4:
                numbers_of.append(number(rng, fine))
            found[lot] = max(numbers_of, key=lambda one: Fraction(*one))
    return found


def shuffled(rng, given):
    """The same dict with its keys in another order."""
    keys = list(given)
    rng.shuffle(keys)
    return {key: given[key] for key in keys}


def stretches(rng, people, fine=6):
    return tuple(tuple(sorted(numbers(rng, 2, fine), key=lambda one: Fraction(*one))) for _ in range(people))


def spoiled_stretches(right):
    """Right stretches with something odd in the place of them, of one pair or one number, or with one upside down."""
    found = spoiled(right) + [right[:-1], (*right, right[0])]
    for at, (low, high) in enumerate(right):
        if low != high:
            found.append((*right[:at], (high, low), *right[at + 1:]))
    return found


def spoiled_table(right):
    """A right table with a lot lacking, strange or without a number, and odd things in the place of it."""
    found = ODD + [list(right.items()), list(right), tuple(right), {}]
    for lot in right:
        found.append({key: right[key] for key in right if key != lot})
        found.extend({**right, lot: wrong} for wrong in ODD)
        for strange in (str(list(lot)), (*lot, 6), (*lot, None), (*lot, "a"), (lot,), -1, None, b"", NoBids):
            found.append({strange if key == lot else key: right[key] for key in right})
    for strange in ((6,), (-1,), (0, 0), (1, 0), 0, "", None, (None,), (((0,),),), NoBids, NoBids(), b"ab", range(2), 10 ** 199):
        found.append({**right, strange: (1, 1)})
    return found


def lowered_tables(right):
    """The tables in which one lot has less than a lot with one person less has."""
    found = []
    for lot in right:
        for at in range(len(lot)):
            low = Fraction(*right[lot[:at] + lot[at + 1:]])
            if low > 0:
                found.append({**right, lot: pair(low * Fraction(9, 10))})
    return found
