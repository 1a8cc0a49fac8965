"""Fractions: pairs (top, bottom) of integers in lowest terms, bottom from 1 on."""

from math import gcd, lcm

ZERO = (0, 1)
ONE = (1, 1)


def lowest(top, bottom):
    """The fraction top / bottom; bottom is above 0."""
    shared = gcd(top, bottom)
    return (top // shared, bottom // shared)


def plus(one, other):
    return lowest(one[0] * other[1] + other[0] * one[1], one[1] * other[1])


def minus(one, other):
    return lowest(one[0] * other[1] - other[0] * one[1], one[1] * other[1])


def times(one, other):
    return lowest(one[0] * other[0], one[1] * other[1])


def over(one, other):
    """One divided by the other, which is above 0."""
    return lowest(one[0] * other[1], one[1] * other[0])


def is_less(one, other):
    return one[0] * other[1] < other[0] * one[1]


def lesser(one, other):
    return other if is_less(other, one) else one


def greater(one, other):
    return other if is_less(one, other) else one


def middle(low, high, number):
    """The middle of three numbers, low being at most high."""
    return greater(low, lesser(high, number))


def mean_of(weights, numbers):
    """The sum of numbers times their weights, divided by the sum of the weights."""
    bottom = common_bottom(numbers)
    total = sum([weight * scaled(number, bottom) for weight, number in zip(weights, numbers)])
    return lowest(total, bottom * sum(weights))


def apart(one, other):
    """How far two fractions are from one another."""
    return minus(greater(one, other), lesser(one, other))


def ascending(fractions):
    """The unlike ones of fractions, by their worth."""
    bottom = common_bottom(fractions)
    return [lowest(parts, bottom) for parts in sorted({scaled(fraction, bottom) for fraction in fractions})]


def common_bottom(fractions):
    """The least bottom over which all of these fractions can be told."""
    bottom = 1
    for fraction in fractions:
        bottom = lcm(bottom, fraction[1])
    return bottom


def scaled(fraction, bottom):
    """How many parts of 1 / bottom a fraction is."""
    return fraction[0] * (bottom // fraction[1])
