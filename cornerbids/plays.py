"""Plays: the bids of a schedule's turns, one behind another, all seeing what was bid and what is to come."""

from cornerbids.amounts import ONE, ZERO, is_less
from cornerbids.checks import is_number, is_play, need_person, need_play, need_schedule, need_wishes
from cornerbids.errors import BadPlan, NoTurn
from cornerbids.lines import foreseen_line, nearest_bids
from cornerbids.outcomes import outcome_behind


def bids_behind(rule, schedule, play):
    """The bids of all behind a play: 0 for those who have not bid yet."""
    need_schedule(rule, schedule)
    need_play(schedule, play)
    return latest_bids(rule, schedule, play)


def latest_bids(rule, schedule, play):
    bids = [ZERO] * rule.people
    for person, bid in zip(schedule, play):
        bids[person] = bid
    return tuple(bids)


def lot_of(turns):
    """Those who have one of these turns."""
    return tuple(sorted(set(turns)))


def foreseen(rule, wishes, schedule, play):
    """The number that comes out behind a play, those being later who have a turn left."""
    need_wishes(rule, wishes)
    need_schedule(rule, schedule)
    need_play(schedule, play)
    return foreseen_behind(rule, wishes, schedule, play)


def foreseen_behind(rule, wishes, schedule, play):
    return outcome_behind(rule, wishes, latest_bids(rule, schedule, play), lot_of(schedule[len(play):]))


def best_bids(rule, wishes, schedule, play):
    """The least and the greatest best bid of the next speaker."""
    need_wishes(rule, wishes)
    need_schedule(rule, schedule)
    need_play(schedule, play)
    if len(play) == len(schedule):
        raise NoTurn()
    return best_range(rule, wishes, schedule, play)


def best_range(rule, wishes, schedule, play):
    speaker = schedule[len(play)]
    later = lot_of(schedule[len(play) + 1:])
    # What a speaker bids who comes again is forgotten by then.
    if speaker in later:
        return (ZERO, ONE)
    bids = latest_bids(rule, schedule, play)
    return nearest_bids(foreseen_line(rule, wishes, bids, speaker, later), wishes[speaker])


def best_play(rule, wishes, schedule):
    """A whole play of best bids, each the least one."""
    need_wishes(rule, wishes)
    need_schedule(rule, schedule)
    play = ()
    for _ in schedule:
        play = (*play, best_range(rule, wishes, schedule, play)[0])
    return play


def is_best(rule, wishes, schedule, thing):
    """Whether a thing is a whole play of best bids."""
    need_wishes(rule, wishes)
    need_schedule(rule, schedule)
    if not is_play(thing, schedule) or len(thing) < len(schedule):
        return False
    for at, bid in enumerate(thing):
        low, high = best_range(rule, wishes, schedule, thing[:at])
        if is_less(bid, low) or is_less(high, bid):
            return False
    return True


def led(rule, wishes, schedule, person, plan):
    """The whole play in which a person bids by a plan, all others their least best bid."""
    need_wishes(rule, wishes)
    need_schedule(rule, schedule)
    need_person(rule, person)
    play = ()
    for at, speaker in enumerate(schedule):
        if speaker == person:
            bid = plan(play)
            if not is_number(bid):
                raise BadPlan(at)
        else:
            bid = best_range(rule, wishes, schedule, play)[0]
        play = (*play, bid)
    return play
