"""The texts of 14.1 once more, apart from the program: which signs can stand where, told sign by sign.

What may still come is a row of parts: a sign; "TERM"; ("int", digits so far); ("number", signs so far). All rows that
can be meant are kept side by side.
"""

import re
from fractions import Fraction

INT = re.compile(r"(0|[1-9][0-9]{0,6})?")
NUMBER = re.compile(r"((0|[1-9][0-9]{0,6})(/(0|[1-9][0-9]{0,6})?)?)?")


def is_number_text(text):
    if text in ("0", "1"):
        return True
    if not re.fullmatch(r"[0-9]+/[0-9]+", text) or set(text.split("/")[1]) == {"0"}:
        return False
    top, bottom = text.split("/")
    told = Fraction(int(top), int(bottom))
    return 0 < told < 1 and f"{told.numerator}/{told.denominator}" == text


def is_whole(part):
    kind, text = part
    return bool(text) if kind == "int" else is_number_text(text)


def opened(rows):
    """The rows with each first part but signs, and what is read in part, put as the rows that it can be."""
    found = []
    todo = list(rows)
    while todo:
        row = todo.pop()
        if row and row[0] == "TERM":
            terms, rest = ["TERM", "MORE"], row[1:]
            todo.append(("b", ("int", "")) + rest)
            todo.append((("number", ""),) + rest)
            todo.append(tuple("mean(") + (("int", ""), "*", "TERM", "MOREPARTS") + rest)
            todo.append(tuple("least(") + tuple(terms) + rest)
            todo.append(tuple("greatest(") + tuple(terms) + rest)
            todo.append(tuple("ranked(") + (("int", ""), ";", " ") + tuple(terms) + rest)
            todo.append(tuple("between(") + (("number", ""), ",", " ", ("number", ""), ";", " ", "TERM", ")") + rest)
        elif row and row[0] == "MORE":
            todo.append((")",) + row[1:])
            todo.append((",", " ", "TERM", "MORE") + row[1:])
        elif row and row[0] == "MOREPARTS":
            todo.append((")",) + row[1:])
            todo.append((",", " ", ("int", ""), "*", "TERM", "MOREPARTS") + row[1:])
        else:
            found.append(row)
            if row and isinstance(row[0], tuple) and is_whole(row[0]):
                todo.append(row[1:])
    return found


def stepped(rows, sign):
    found = []
    for row in opened(rows):
        if not row:
            continue
        if isinstance(row[0], tuple):
            kind, text = row[0]
            if (INT if kind == "int" else NUMBER).fullmatch(text + sign):
                found.append(((kind, text + sign),) + row[1:])
        elif row[0] == sign:
            found.append(row[1:])
    return found


def bad_at(text):
    """The place of the first sign that cannot stand there, or None for a right text."""
    rows = [(("int", ""), " ", "TERM")]
    for at, sign in enumerate(text):
        rows = stepped(rows, sign)
        if not rows:
            return at + 1
    return None if () in opened(rows) else len(text) + 1
