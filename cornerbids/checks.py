"""Whether a thing, which may be any object, is what a point asks for."""

from math import gcd

from cornerbids.amounts import is_less
from cornerbids.errors import NoBids, NoLot, NoNumber, NoPeople, NoPerson, NoPlay, NoSchedule, NoStretches, NoWishes

MOST_PEOPLE = 6
MOST_TURNS = 12


def is_integer(thing):
    return isinstance(thing, int) and not isinstance(thing, bool)


def is_number(thing):
    """Whether a thing is a fraction from 0 to 1."""
    if not (isinstance(thing, tuple) and len(thing) == 2):
        return False
    top, bottom = thing
    if not (is_integer(top) and is_integer(bottom)):
        return False
    return bottom >= 1 and 0 <= top <= bottom and gcd(top, bottom) == 1


def are_numbers(thing, many):
    """Whether a thing is a tuple of so many numbers."""
    return isinstance(thing, tuple) and len(thing) == many and all([is_number(number) for number in thing])


def are_bounds(low, high):
    return is_number(low) and is_number(high) and not is_less(high, low)


def are_stretches(thing, people):
    """Whether a thing is a tuple of a pair of numbers, the first one at most the second, for each person."""
    return isinstance(thing, tuple) and len(thing) == people and all([is_stretch(pair) for pair in thing])


def is_stretch(thing):
    return isinstance(thing, tuple) and len(thing) == 2 and are_bounds(thing[0], thing[1])


def is_people(thing):
    """Whether a thing is how many people a rule, or a table, may have."""
    return is_integer(thing) and 1 <= thing <= MOST_PEOPLE


def is_person(thing, people):
    return is_integer(thing) and 0 <= thing < people


def are_persons(thing, people):
    """Whether a thing is a tuple of persons, in any order, perhaps alike ones."""
    return isinstance(thing, tuple) and all([is_person(person, people) for person in thing])


def is_lot(thing, people):
    if not are_persons(thing, people):
        return False
    return all([thing[at - 1] < thing[at] for at in range(1, len(thing))])


def is_schedule(thing, people):
    """Whether a thing is a tuple of 1 to 12 persons, each person at least once: a schedule, or an order to run by."""
    return are_persons(thing, people) and len(thing) <= MOST_TURNS and len(set(thing)) == people


def is_play(thing, schedule):
    return isinstance(thing, tuple) and len(thing) <= len(schedule) and are_numbers(thing, len(thing))


def need_number(thing):
    if not is_number(thing):
        raise NoNumber()


def need_wishes(rule, thing):
    if not are_numbers(thing, rule.people):
        raise NoWishes()


def need_bids(rule, thing):
    if not are_numbers(thing, rule.people):
        raise NoBids()


def need_stretches(rule, thing):
    if not are_stretches(thing, rule.people):
        raise NoStretches()


def need_people(thing):
    if not is_people(thing):
        raise NoPeople()


def need_person(rule, thing):
    if not is_person(thing, rule.people):
        raise NoPerson()


def need_lot(rule, thing):
    if not is_lot(thing, rule.people):
        raise NoLot()


def need_schedule(rule, thing):
    if not is_schedule(thing, rule.people):
        raise NoSchedule()


def need_play(schedule, thing):
    if not is_play(thing, schedule):
        raise NoPlay()
