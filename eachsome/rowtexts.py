"""Rows of sentences: their texts as other solvers read them."""

from eachsome.bounds import MAX_LETTERS
from eachsome.errors import BadText
from eachsome.numerals import read_literal
from eachsome.sentences import sentence_error

# Rows write "a" (for all) for EACH's letters and "e" (exists) for SOME's; "e" means EACH in owners.
SIGN_IN_ROWS = {"e": "a", "s": "e"}
OWNER_BY_SIGN = {"a": "e", "e": "s"}


def stretches(owners):
    """Return the longest stretches of letters of one owner, in order, as pairs of owner and letters."""
    found = []
    for place, owner in enumerate(owners):
        if not found or found[-1][0] != owner:
            found.append((owner, []))
        found[-1][1].append(place + 1)
    return found


def stretch_row(owner, letters):
    """Return the line of a stretch of letters."""
    return SIGN_IN_ROWS[owner] + "".join([f" {letter}" for letter in letters]) + " 0\n"


def clause_row(clause):
    """Return the line of a clause."""
    return "".join([f"{literal} " for literal in clause]) + "0\n"


def sentence_rows(sentence):
    """Return the rows of a sentence."""
    owners, clauses = sentence
    first = f"p cnf {len(owners)} {len(clauses)}\n"
    told = [stretch_row(owner, letters) for owner, letters in stretches(owners)]
    return first + "".join(told) + "".join([clause_row(clause) for clause in clauses])


def is_stretch_row(line):
    """Tell whether line is, by its first sign, that of a stretch of letters."""
    return line[:1] in OWNER_BY_SIGN


def owners_in(line):
    """Return the owners of as many letters as the line of a stretch has room for."""
    return OWNER_BY_SIGN[line[0]] * (line.count(" ") - 1)


def literals_in(line):
    """Return the tuple of the literals in line, what stands behind the last blank left out."""
    return tuple([read_literal(word, MAX_LETTERS) for word in line.split(" ")[:-1]])


def read_rows(value):
    """Return the sentence of which value is the rows; raise BadText if there is none."""
    if not isinstance(value, str):
        raise BadText()
    lines = value.split("\n")[1:-1]
    owners = "".join([owners_in(line) for line in lines if is_stretch_row(line)])
    clauses = tuple([literals_in(line) for line in lines if not is_stretch_row(line)])
    sentence = (owners, clauses)
    # The reading takes more than the rows there are: writing them again finds what was not right.
    if sentence_error(sentence) is not None or sentence_rows(sentence) != value:
        raise BadText()
    return sentence
