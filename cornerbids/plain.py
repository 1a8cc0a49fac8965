"""Plain rules: means of bids and fixed numbers, and turns without foresight."""

from cornerbids.amounts import common_bottom, lowest, minus, scaled, times
from cornerbids.checks import are_numbers, is_schedule, need_bids, need_person, need_wishes
from cornerbids.corners import corner_of
from cornerbids.errors import NoOrder, NotPlain
from cornerbids.lines import joint_line, nearest_bids
from cornerbids.terms import inner_terms, replaced


def is_plain(rule):
    """Whether the term is made of bids, fixed numbers and means alone, and each person stands in it."""
    level = [rule.term]
    speakers = []
    while level:
        if not all([term[0] in ("bid", "fixed", "mean") for term in level]):
            return False
        speakers.extend([term[1] for term in level if term[0] == "bid"])
        level = [inner for term in level for inner in inner_terms(term)]
    return len(set(speakers)) == rule.people


def need_plain(rule):
    if not is_plain(rule):
        raise NotPlain()


def weights(rule):
    """The fractions of the persons' bids in the number, and the fraction that is there without them."""
    need_plain(rule)
    return shares_of(rule)


def shares_of(rule):
    # A plain rule goes straight with each bid, so its corners tell all of it.
    last = corner_of(rule, ())
    return (tuple([minus(corner_of(rule, (person,)), last) for person in range(rule.people)]), last)


def turn(rule, wishes, bids, person):
    """The bids behind a turn of this person, who brings the number nearest to the wish."""
    need_plain(rule)
    need_wishes(rule, wishes)
    need_bids(rule, bids)
    need_person(rule, person)
    return turned(rule, wishes, bids, person)


def turned(rule, wishes, bids, person):
    bent = joint_line(rule, bids, (person,))
    return replaced(bids, (person,), nearest_bids(bent, wishes[person])[0])


def is_quiet(rule, wishes, thing):
    """Whether a thing are bids that no turn changes."""
    need_plain(rule)
    need_wishes(rule, wishes)
    if not are_numbers(thing, rule.people):
        return False
    return all([turned(rule, wishes, thing, person) == thing for person in range(rule.people)])


def run(rule, wishes, bids, order):
    """The quiet bids that turns in this order, again and again, end with, and how many turns changed a bid."""
    need_plain(rule)
    need_wishes(rule, wishes)
    need_bids(rule, bids)
    if not is_schedule(order, rule.people):
        raise NoOrder()
    loads = Loads(rule, wishes, bids)
    many = 0
    moved = 1
    while moved > 0:
        level = loads.level
        steps = [loads.turn_of(person) for person in order]
        moved = len([step for step in steps if step[1] != 0])
        # Of wishes that are close together a run is long, but nearly all of its rounds are alike.
        alike = loads.rounds_alike(steps) if loads.level == level else 0
        loads.skip(steps, alike)
        many += moved * (alike + 1)
    return (loads.bids(), many)


class Loads:
    """What each bid adds to the number of a plain rule, all over one common bottom: turns need integers only."""

    def __init__(self, rule, wishes, bids):
        shares, last = shares_of(rule)
        added = [times(share, bid) for share, bid in zip(shares, bids)]
        bottom = common_bottom((last, *shares, *added, *wishes))
        self.full = [scaled(share, bottom) for share in shares]
        self.goals = [scaled(wish, bottom) for wish in wishes]
        self.loads = [scaled(part, bottom) for part in added]
        self.level = scaled(last, bottom) + sum(self.loads)

    def bids(self):
        return tuple([lowest(load, full) for load, full in zip(self.loads, self.full)])

    def turn_of(self, person):
        """A turn; it is told as (person, change of the load, load behind it, whether the wish was reached)."""
        wanted = self.loads[person] + self.goals[person] - self.level
        load = min(max(wanted, 0), self.full[person])
        change = load - self.loads[person]
        self.loads[person] = load
        self.level += change
        return (person, change, load, load == wanted)

    def rounds_alike(self, steps):
        """How many more rounds surely go like the last one, at whose end the number was what it was at its beginning.

        Who ends a round as they began it do the same again. Who do not go on by the same, if each of their turns
        reached the wish, until one of them would come to 0 or 1 ahead of it.
        """
        paces = self.paces(steps)
        rooms = []
        for person, _, load, reached in steps:
            pace = paces[person]
            if pace != 0 and not reached:
                return 0
            if pace != 0:
                room = self.full[person] - load if pace > 0 else load
                rooms.append(room // abs(pace))
        return min(rooms, default=0)

    def paces(self, steps):
        """By how much the round of these steps changed each person's load."""
        found = [0] * len(self.loads)
        for step in steps:
            found[step[0]] += step[1]
        return found

    def skip(self, steps, rounds):
        """So many rounds like that of these steps at once."""
        for person, pace in enumerate(self.paces(steps)):
            self.loads[person] += pace * rounds
