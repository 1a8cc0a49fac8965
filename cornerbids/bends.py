"""Bent lines: tuples of pairs (place, height), and how several of them are put together to one."""

from cornerbids.amounts import ONE, ZERO, apart, greater, is_less, lesser, mean_of, minus, over, plus, times
from cornerbids.checks import are_numbers


def flat(number):
    """The line that tells one number everywhere."""
    return ((ZERO, number), (ONE, number))


def is_line(thing):
    """Whether a thing, which may be any object, is a line in its shortest form."""
    if not (isinstance(thing, tuple) and len(thing) >= 2 and all([are_numbers(pair, 2) for pair in thing])):
        return False
    if thing[0][0] != ZERO or thing[-1][0] != ONE:
        return False
    steps = range(1, len(thing))
    if not all([is_step(thing[at - 1], thing[at]) for at in steps]):
        return False
    return not any([is_straight(thing[at - 2], thing[at - 1], thing[at]) for at in steps if at >= 2])


def is_step(one, other):
    """Whether one pair may stand just ahead of the other in a line."""
    return is_less(one[0], other[0]) and not is_less(other[1], one[1])


def is_straight(one, two, three):
    """Whether of three pairs with ascending places the second is on the straight way between the others."""
    if one[1] == two[1] or two[1] == three[1]:
        return one[1] == three[1]
    short = times(minus(two[0], one[0]), minus(three[1], one[1]))
    long = times(minus(three[0], one[0]), minus(two[1], one[1]))
    return short == long


def shortened(pairs):
    """The line through pairs, without those that stand on a straight way."""
    kept = []
    for pair in pairs:
        if len(kept) >= 2 and is_straight(kept[-2], kept[-1], pair):
            kept.pop()
        kept.append(pair)
    return tuple(kept)


def height(one, other, place):
    """The height at a place from that of one pair to that of the other."""
    if place == one[0] or one[1] == other[1]:
        return one[1]
    if place == other[0]:
        return other[1]
    part = over(minus(place, one[0]), minus(other[0], one[0]))
    return plus(one[1], times(part, minus(other[1], one[1])))


def heights(bent, places):
    """The heights of a line at ascending places."""
    found = []
    at = 1
    for place in places:
        while is_less(bent[at][0], place):
            at += 1
        found.append(height(bent[at - 1], bent[at], place))
    return found


def merged(ones, others):
    """Two ascending rows of numbers as one, with each number once."""
    found = []
    at = 0
    for number in ones:
        while at < len(others) and is_less(others[at], number):
            found.append(others[at])
            at += 1
        if at < len(others) and others[at] == number:
            at += 1
        found.append(number)
    return found + others[at:]


def bending_places(lines):
    """All places of the pairs of several lines, ascending."""
    found = []
    for bent in lines:
        found = merged(found, [place for place, _ in bent])
    return found


def parting_places(one, other):
    """All places of the pairs of two lines, and those at which the lines cross, ascending."""
    places = bending_places([one, other])
    rows = list(zip(places, heights(one, places), heights(other, places)))
    found = [ZERO]
    for at in range(1, len(rows)):
        if do_cross(rows[at - 1], rows[at]):
            found.append(crossing_place(rows[at - 1], rows[at]))
        found.append(places[at])
    return found


def do_cross(start, end):
    """Whether two straight ways cross between a place and the next one, a row being a place and both heights there."""
    if is_less(start[1], start[2]):
        return is_less(end[2], end[1])
    return is_less(start[2], start[1]) and is_less(end[1], end[2])


def crossing_place(start, end):
    """The place at which two straight ways cross, which are apart on either side of it."""
    first = apart(start[1], start[2])
    last = apart(end[1], end[2])
    part = over(first, plus(first, last))
    return plus(start[0], times(part, minus(end[0], start[0])))


def put_together(lines, places, way):
    """The line that tells at each place what the way makes of what the lines tell there, straight between places."""
    rows = [heights(bent, places) for bent in lines]
    return shortened([(place, way([row[at] for row in rows])) for at, place in enumerate(places)])


class Lines:
    """The ways of lines."""

    def fixed(self, number):
        return flat(number)

    def mean(self, weights, lines):
        return put_together(lines, bending_places(lines), lambda numbers: mean_of(weights, numbers))

    def lesser(self, one, other):
        if is_never_above(one, other):
            return one
        if is_never_above(other, one):
            return other
        return put_together([one, other], parting_places(one, other), lambda pair: lesser(pair[0], pair[1]))

    def greater(self, one, other):
        if is_never_above(one, other):
            return other
        if is_never_above(other, one):
            return one
        return put_together([one, other], parting_places(one, other), lambda pair: greater(pair[0], pair[1]))


def is_never_above(one, other):
    """Whether all that one line tells is at most all that the other one tells: then nothing is to be put together."""
    return not is_less(other[0][1], one[-1][1])
