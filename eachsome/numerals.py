"""Integers in decimal, as all texts of the program write them."""

from eachsome.errors import BadText


def read_number(text, top):
    """Return the integer from 0 to top that text writes; raise BadText if there is none."""
    # The length is looked at first: Python refuses to read a number of thousands of figures.
    if len(text) > len(str(top)) or not (text.isascii() and text.isdigit()):
        raise BadText()
    number = int(text)
    if number > top or str(number) != text:
        raise BadText()
    return number


def read_literal(text, letters):
    """Return the literal of a letter from 1 to letters that text writes; raise BadText if there is none."""
    letter = read_number(text.removeprefix("-"), letters)
    if letter == 0:
        raise BadText()
    return -letter if text.startswith("-") else letter
