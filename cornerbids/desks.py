"""The desk: it keeps rules by names and leads a sitting, line by line."""

from cornerbids.comparing import alike
from cornerbids.corners import all_lots, corner_of
from cornerbids.errors import NoName, NoneLed, NothingDone, NoWord
from cornerbids.outcomes import outcome, sides
from cornerbids.reading import read_rule
from cornerbids.rules import value
from cornerbids.sittings import Sitting
from cornerbids.texts import decimal, number_text, rule_text
from cornerbids.words import number_of, numbers_of, persons_of

LETTERS = "abcdefghijklmnopqrstuvwxyz"
MOST_LETTERS = 8
# What stands behind the first word of a line.
FORMS = {
    "rule": ("name", "signs"),
    "drop": ("name",),
    "names": (),
    "show": ("name",),
    "outcome": ("name", "signs"),
    "value": ("name", "signs"),
    "corners": ("name",),
    "alike": ("name", "name"),
    "sides": ("name", "signs"),
    "sit": ("name", "signs", "signs"),
    "bid": ("signs",),
    "now": (),
    "undo": (),
}


def words_of_line(line):
    """The words of a line, the text of a rule being one of them."""
    if not isinstance(line, str) or "\n" in line:
        raise NoWord()
    words = line.split(" ", 2) if line.startswith("rule ") else line.split(" ")
    if not are_formed(words):
        raise NoWord()
    return words


def are_formed(words):
    """Whether words are of one of the forms of a line."""
    if words[0] not in FORMS:
        return False
    parts = FORMS[words[0]]
    if len(words) != len(parts) + 1:
        return False
    return all([is_name(word) if part == "name" else word != "" for part, word in zip(parts, words[1:])])


def is_name(word):
    return 1 <= len(word) <= MOST_LETTERS and all([sign in LETTERS for sign in word])


# A state is a pair: the dict from names to rules, and the sitting that is led, or None. Neither is changed once it is
# kept, so that what is taken back is as it was.

def rule_named(state, name):
    if name not in state[0]:
        raise NoName(name)
    return state[0][name]


def led_sitting(state):
    if state[1] is None:
        raise NoneLed()
    return state[1]


def with_rule(state, words):
    return ({**state[0], words[1]: read_rule(words[2])}, state[1])


def without_rule(state, words):
    rule_named(state, words[1])
    return ({name: state[0][name] for name in state[0] if name != words[1]}, state[1])


def with_sitting(state, words):
    rule = rule_named(state, words[1])
    return (state[0], Sitting(rule, numbers_of(words[2]), persons_of(words[3])))


def with_bid(state, words):
    sitting = led_sitting(state).copy()
    sitting.bid(number_of(words[1]))
    return (state[0], sitting)


def names_told(state, words):
    return " ".join(sorted(state[0])) if state[0] else "none"


def text_told(state, words):
    return rule_text(rule_named(state, words[1]))


def outcome_told(state, words):
    return number_text(outcome(rule_named(state, words[1]), numbers_of(words[2])))


def value_told(state, words):
    return number_text(value(rule_named(state, words[1]), numbers_of(words[2])))


def corners_told(state, words):
    rule = rule_named(state, words[1])
    return " ".join([number_text(corner_of(rule, lot)) for lot in all_lots(rule.people)])


def alike_told(state, words):
    one = rule_named(state, words[1])
    other = rule_named(state, words[2])
    return "yes" if alike(one, other) else "no"


def sides_told(state, words):
    lots = sides(rule_named(state, words[1]), numbers_of(words[2]))
    return " ".join([lot_text(lot) for lot in lots])


def lot_text(lot):
    return ",".join([decimal(person) for person in lot]) if lot else "-"


def turn_told(state, words):
    sitting = led_sitting(state)
    speaker = sitting.speaker()
    word = "none" if speaker is None else decimal(speaker)
    return word + " " + number_text(sitting.foreseen())


# What makes another state, and what only tells of one.
DEEDS = {"rule": with_rule, "drop": without_rule, "sit": with_sitting, "bid": with_bid}
QUESTIONS = {
    "names": names_told,
    "show": text_told,
    "outcome": outcome_told,
    "value": value_told,
    "corners": corners_told,
    "alike": alike_told,
    "sides": sides_told,
    "now": turn_told,
}


class Desk:
    """Rules by names, and a sitting that is led."""

    def __init__(self):
        # The states ahead of each deed that is not taken back, and that of now.
        self._states = (({}, None),)

    def tell(self, line):
        """Does what a line asks for; what there is to tell of it."""
        words = words_of_line(line)
        if words[0] in QUESTIONS:
            question = QUESTIONS[words[0]]
            return question(self._states[-1], words)
        if words[0] in DEEDS:
            deed = DEEDS[words[0]]
            self._states = (*self._states, deed(self._states[-1], words))
            return "ok"
        if self.undoable() == 0:
            raise NothingDone()
        self._states = self._states[:-1]
        return "ok"

    def undoable(self):
        """How many lines can be taken back."""
        return len(self._states) - 1
