"""How likely outcomes are if each wish is one of several, each place as likely as each other one."""

from cornerbids.amounts import ZERO, is_less, lowest, over, plus, times
from cornerbids.checks import are_numbers, need_number, need_person
from cornerbids.corners import corners
from cornerbids.errors import NoChoices, TooMany

MOST_CHOICES = 20
MOST_ROWS = 20000


def chances(rule, choices):
    """The dict from all outcomes that can be to how likely they are."""
    need_choices(rule, choices)
    need_few_rows(choices)
    counts = outcome_counts(rule, choices)
    return {number: lowest(counts[number], rows_of(choices)) for number in counts}


def mean_outcome(rule, choices):
    """The mean of the outcome."""
    need_choices(rule, choices)
    need_few_rows(choices)
    counts = outcome_counts(rule, choices)
    total = ZERO
    for number in counts:
        total = plus(total, times(number, (counts[number], 1)))
    return over(total, (rows_of(choices), 1))


def likely_own(rule, choices, person):
    """How likely the outcome is just the wish of a person."""
    need_choices(rule, choices)
    need_person(rule, person)
    need_few_rows(choices)
    table = corners(rule)
    many = 0
    for wish in choices[person]:
        many += rows_just(table, (*choices[:person], (wish,), *choices[person + 1:]), wish)
    return lowest(many, rows_of(choices))


def likely_at_least(rule, choices, number):
    """How likely the outcome is at least a number."""
    need_choices(rule, choices)
    need_number(number)
    return lowest(rows_reaching(corners(rule), choices, number, False), rows_of(choices))


def need_choices(rule, thing):
    if not (isinstance(thing, tuple) and len(thing) == rule.people and all([is_choice(row) for row in thing])):
        raise NoChoices()


def is_choice(thing):
    return isinstance(thing, tuple) and 1 <= len(thing) <= MOST_CHOICES and are_numbers(thing, len(thing))


def need_few_rows(choices):
    if rows_of(choices) > MOST_ROWS:
        raise TooMany(MOST_ROWS)


def rows_of(choices):
    """How many rows of wishes there are, each place apart."""
    rows = 1
    for row in choices:
        rows *= len(row)
    return rows


def outcome_counts(rule, choices):
    """The dict from all outcomes that can be to how many rows of wishes bring each about."""
    table = corners(rule)
    found = {}
    # An outcome is a corner or a wish.
    for numbers in (tuple(table.values()), *choices):
        for number in numbers:
            if number not in found:
                found[number] = rows_just(table, choices, number)
    return {number: found[number] for number in found if found[number] > 0}


def rows_just(table, choices, number):
    """How many rows of wishes have just this outcome."""
    return rows_reaching(table, choices, number, False) - rows_reaching(table, choices, number, True)


def rows_reaching(table, choices, number, above):
    """How many rows of wishes have an outcome of at least a number, or above it.

    They are those in which the corner of those who wish so much is so much; so lots are counted, not rows.
    """
    eager = [len([wish for wish in row if reaches(wish, number, above)]) for row in choices]
    many = 0
    for lot in table:
        if reaches(table[lot], number, above):
            many += rows_of_lot(lot, choices, eager)
    return many


def reaches(told, number, above):
    return is_less(number, told) if above else not is_less(told, number)


def rows_of_lot(lot, choices, eager):
    """How many rows of wishes there are in which just those of a lot have one of their eager wishes."""
    rows = 1
    for person, row in enumerate(choices):
        rows *= eager[person] if person in lot else len(row) - eager[person]
    return rows
