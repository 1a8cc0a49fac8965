"""Numbers and persons read from words without blanks: None where a word tells none."""

from cornerbids.checks import is_number

DIGITS = "0123456789"


def whole_of(word):
    """The integer that a word tells in digits without needless zeros, or None."""
    if word == "" or not all([sign in DIGITS for sign in word]):
        return None
    if word[0] == "0" and word != "0":
        return None
    whole = 0
    # Digit by digit, as Python reads none of some thousand digits at once.
    for sign in word:
        whole = whole * 10 + int(sign)
    return whole


def number_of(word):
    """The number that a word tells as 0, 1 or TOP/BOTTOM, or None."""
    if word in ("0", "1"):
        return (int(word), 1)
    wholes = [whole_of(part) for part in word.split("/")]
    # What is 0 or 1 is not written with a bottom.
    if len(wholes) != 2 or wholes[1] == 1:
        return None
    number = (wholes[0], wholes[1])
    return number if is_number(number) else None


def numbers_of(word):
    """The tuple of the numbers that a word tells with commas between, or None."""
    return whole_row([number_of(part) for part in word.split(",")])


def persons_of(word):
    """The tuple of the persons that a word tells with commas between, or None."""
    return whole_row([whole_of(part) for part in word.split(",")])


def whole_row(things):
    """The tuple of things, or None if one of them is lacking."""
    return None if None in things else tuple(things)
