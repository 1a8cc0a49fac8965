"""Who holds a number, and who blocks it: lots whose bids alone keep the rule at it, or below."""

from cornerbids.amounts import ascending, is_less
from cornerbids.checks import need_number
from cornerbids.corners import all_lots, corner_of, corners


def least_lots(rule, number):
    """The lots that hold a number and of which nobody can be left out."""
    need_number(number)
    return least_of_lots(holding_lots(rule, number))


def least_blocks(rule, number):
    """The lots that block a number and of which nobody can be left out."""
    need_number(number)
    held = holding_lots(rule, number)
    lots = all_lots(rule.people)
    everybody = lots[-1]
    return least_of_lots([lot for lot in lots if without(everybody, lot) not in held])


def vetoes(rule, number):
    """The lot of those without whom no lot holds a number."""
    need_number(number)
    held = holding_lots(rule, number)
    return tuple([person for person in range(rule.people) if all([person in lot for lot in held])])


def swings(rule, number):
    """For each person how many lots hold a number just if the person comes to them."""
    need_number(number)
    held = holding_lots(rule, number)
    return tuple([len(swung_lots(held, person)) for person in range(rule.people)])


def alone(rule, number):
    """The person such that just the lots with this person hold a number, or None."""
    need_number(number)
    held = holding_lots(rule, number)
    for person in range(rule.people):
        if held == [lot for lot in all_lots(rule.people) if person in lot]:
            return person
    return None


def levels(rule):
    """The unlike corners, ascending."""
    return ascending(list(corners(rule).values()))


def holding_lots(rule, number):
    """The lots that hold a number, by how many they are, then as tuples."""
    return [lot for lot in all_lots(rule.people) if not is_less(corner_of(rule, lot), number)]


def without(lot, others):
    """Those of a lot who are not among the others."""
    return tuple([person for person in lot if person not in others])


def least_of_lots(lots):
    """Those of which nobody can be left out so that it is still one of these lots."""
    return [lot for lot in lots if not any([without(lot, (person,)) in lots for person in lot])]


def swung_lots(held, person):
    """The lots with this person that do not hold without."""
    return [lot for lot in held if person in lot and without(lot, (person,)) not in held]
