"""A sitting: it leads a play of a schedule, bid by bid."""

from cornerbids.checks import is_integer, need_number, need_schedule, need_wishes
from cornerbids.errors import NoNumber, NoTurn
from cornerbids.plays import best_range, foreseen_behind, latest_bids
from cornerbids.terms import told_by


class Sitting:
    """A play under way, from no bid on."""

    def __init__(self, rule, wishes, schedule):
        need_wishes(rule, wishes)
        need_schedule(rule, schedule)
        self._rule = rule
        self._wishes = wishes
        self._schedule = schedule
        self._play = ()

    def speaker(self):
        """The next speaker, or None."""
        if len(self._play) == len(self._schedule):
            return None
        return self._schedule[len(self._play)]

    def bid(self, number):
        """The next speaker bids this."""
        if self.speaker() is None:
            raise NoTurn()
        need_number(number)
        self._play = (*self._play, number)

    def play(self):
        """The bids so far, in their turns."""
        return self._play

    def bids(self):
        """The bids of all behind the play so far."""
        return latest_bids(self._rule, self._schedule, self._play)

    def foreseen(self):
        """The number that comes out from here."""
        return foreseen_behind(self._rule, self._wishes, self._schedule, self._play)

    def best(self):
        """The least and the greatest best bid of the next speaker."""
        if self.speaker() is None:
            raise NoTurn()
        return best_range(self._rule, self._wishes, self._schedule, self._play)

    def told(self):
        """The number that the rule tells of the bids now."""
        return told_by(self._rule.term, self.bids())

    def back(self, many):
        """Takes back the last bids, so many."""
        if not (is_integer(many) and 1 <= many <= len(self._play)):
            raise NoNumber()
        self._play = self._play[:len(self._play) - many]

    def copy(self):
        """Another sitting that goes on apart from here."""
        other = Sitting(self._rule, self._wishes, self._schedule)
        other._play = self._play
        return other

    def trying(self, action):
        """What the action returns of this sitting, which stands as before then, whatever the action did."""
        kept = self._play
        try:
            return action(self)
        finally:
            self._play = kept
