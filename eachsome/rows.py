"""Rows of papers: what drops and meets make of them."""

from eachsome.errors import Unfit

# The sign of the holder's letters in owners, by the side of the paper.
HOLDERS = {"no": "e", "yes": "s"}


def dropped(owners, side, row):
    """Return row without the holder's literals behind all those of the other party."""
    kept = len(row)
    while kept and owners[abs(row[kept - 1]) - 1] == HOLDERS[side]:
        kept -= 1
    return row[:kept]


def clashes(one, other):
    """Return the ascending tuple of the letters in which the rows one and other clash."""
    literals = set(other)
    return tuple([abs(literal) for literal in one if -literal in literals])


def met(one, other):
    """Return the row of all literals of both but those of the one letter in which they clash."""
    letters = clashes(one, other)
    if len(letters) != 1:
        raise Unfit()
    by_letter = {abs(literal): literal for literal in one + other}
    del by_letter[letters[0]]
    return tuple([by_letter[letter] for letter in sorted(by_letter)])
