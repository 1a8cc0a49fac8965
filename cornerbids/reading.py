"""Rules read from their texts."""

from cornerbids.checks import is_number
from cornerbids.errors import BadText
from cornerbids.rules import Rule

DIGITS = "0123456789"
MOST_DIGITS = 7
# The words in front of brackets, by their first signs.
WORDS = {"m": "mean", "l": "least", "g": "greatest", "r": "ranked", "b": "between"}


def read_rule(text):
    """The rule that a text tells."""
    if not isinstance(text, str):
        raise BadText(0)
    reader = Reader(text)
    people = reader.integer()
    reader.take(" ")
    term = read_term(reader)
    reader.end()
    return Rule(people, term)


def read_term(reader):
    # The open brackets are kept in a list, so that those of any depth are read without recursion.
    opened = []
    term = None
    while term is None:
        if reader.sees_leaf():
            term = read_leaf(reader)
        else:
            opened.append(Bracket(reader))
        while opened and term is not None:
            term = opened[-1].behind(reader, term)
            if term is not None:
                opened.pop()
    return term


def read_leaf(reader):
    if reader.sees("b"):
        reader.take("b")
        return ("bid", reader.integer())
    return ("fixed", reader.number())


class Reader:
    """A text, and how far it is read."""

    def __init__(self, text):
        self.text = text
        self.at = 0

    def sees(self, word):
        return self.text.startswith(word, self.at)

    def sees_digit(self):
        return self.at < len(self.text) and self.text[self.at] in DIGITS

    def sees_leaf(self):
        """Whether a bid or a number begins here."""
        return self.sees_digit() or (self.sees("b") and not self.sees("be"))

    def take(self, word):
        """Goes behind this word, which must stand here."""
        for sign in word:
            if not self.sees(sign):
                raise BadText(self.at + 1)
            self.at += 1

    def end(self):
        if self.at < len(self.text):
            raise BadText(self.at + 1)

    def integer(self):
        if not self.sees_digit():
            raise BadText(self.at + 1)
        start = self.at
        self.at += 1
        # Behind a zero in front no digit can stand.
        if self.text[start] != "0":
            while self.sees_digit() and self.at < start + MOST_DIGITS:
                self.at += 1
        return int(self.text[start:self.at])

    def number(self):
        top = self.integer()
        bottom = 1
        if self.sees("/"):
            self.take("/")
            bottom = self.integer()
            # What is 0 or 1 is not written so.
            if bottom == 1:
                raise BadText(self.at + 1)
        if not is_number((top, bottom)):
            raise BadText(self.at + 1)
        return (top, bottom)


class Bracket:
    """A term with brackets, from its word on: what of it is read so far."""

    def __init__(self, reader):
        start = reader.text[reader.at:reader.at + 1]
        if start not in WORDS:
            raise BadText(reader.at + 1)
        self.word = WORDS[start]
        reader.take(self.word + "(")
        self.head = self.read_head(reader)
        self.inner = []
        self.weights = []
        self.begin(reader)

    def read_head(self, reader):
        """What stands ahead of the terms, as a tuple."""
        if self.word == "ranked":
            k = reader.integer()
            reader.take("; ")
            return (k,)
        if self.word == "between":
            low = reader.number()
            reader.take(", ")
            high = reader.number()
            reader.take("; ")
            return (low, high)
        return ()

    def begin(self, reader):
        """Goes to where the next term begins."""
        if self.word == "mean":
            self.weights.append(reader.integer())
            reader.take("*")

    def behind(self, reader, term):
        """Goes on behind a term: the whole term if the bracket is shut there, None if another one is to come."""
        self.inner.append(term)
        if reader.sees(",") and self.word != "between":
            reader.take(", ")
            self.begin(reader)
            return None
        reader.take(")")
        return self.whole()

    def whole(self):
        if self.word == "between":
            return ("between", *self.head, self.inner[0])
        if self.word == "mean":
            return ("mean", tuple(zip(self.weights, self.inner)))
        return (self.word, *self.head, tuple(self.inner))
