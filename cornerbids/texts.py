"""The texts of rules."""

from cornerbids.amounts import ONE, ZERO
from cornerbids.terms import inner_terms


def rule_text(rule):
    """The text that tells a rule."""
    return decimal(rule.people) + " " + term_text(rule.term)


def term_text(term):
    word = term[0]
    if word == "bid":
        return "b" + decimal(term[1])
    if word == "fixed":
        return number_text(term[1])
    inner = [term_text(part) for part in inner_terms(term)]
    if word == "mean":
        inner = [decimal(part[0]) + "*" + text for part, text in zip(term[1], inner)]
    return word + "(" + head_text(term) + ", ".join(inner) + ")"


def head_text(term):
    """What stands in the brackets of a term ahead of its own terms."""
    if term[0] == "ranked":
        return decimal(term[1]) + "; "
    if term[0] == "between":
        return number_text(term[1]) + ", " + number_text(term[2]) + "; "
    return ""


def number_text(number):
    if number in (ZERO, ONE):
        return decimal(number[0])
    return decimal(number[0]) + "/" + decimal(number[1])


def decimal(whole):
    """The digits of an integer from 0 on: piece by piece, as Python writes none of some thousand digits at once."""
    piece = 10 ** 64
    found = []
    while whole >= piece:
        whole, rest = divmod(whole, piece)
        found.append(str(rest).zfill(64))
    found.append(str(whole))
    return "".join(reversed(found))
