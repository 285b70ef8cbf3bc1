"""Sentences: pairs of owners and clauses."""

from eachsome.bounds import MAX_CLAUSES, MAX_LETTERS
from eachsome.errors import Unfit


def is_number(value):
    """Tell whether value is an integer; True and False are none here."""
    return isinstance(value, int) and not isinstance(value, bool)


def is_owners(value):
    """Tell whether value is owners."""
    return isinstance(value, str) and len(value) <= MAX_LETTERS and all([sign in "es" for sign in value])


def is_clause(value, letters):
    """Tell whether value is a clause of the letters from 1 to letters."""
    if not isinstance(value, tuple):
        return False
    last = 0
    for literal in value:
        if not is_number(literal) or not last < abs(literal) <= letters:
            return False
        last = abs(literal)
    return True


def has_sentence_form(value):
    """Tell whether value is a pair whose second item could be the clauses of a sentence."""
    if not isinstance(value, tuple) or len(value) != 2:
        return False
    return isinstance(value[1], tuple) and len(value[1]) <= MAX_CLAUSES


def twice_error(clauses):
    """Tell the first of the clauses that is the same as one ahead of it, None if there is none."""
    seen = set()
    for place, clause in enumerate(clauses):
        if clause in seen:
            return ("twice", place)
        seen.add(clause)
    return None


def sentence_error(value):
    """Return None for a sentence, otherwise what is wrong with value."""
    if not has_sentence_form(value):
        return "form"
    owners, clauses = value
    if not is_owners(owners):
        return "owners"
    # All clauses come ahead of what stands twice: only clauses are sure to tell 1 from True.
    for place, clause in enumerate(clauses):
        if not is_clause(clause, len(owners)):
            return ("clause", place)
    return twice_error(clauses)


def clause_of(literals):
    """Return the clause that has just these literals."""
    by_letter = {}
    for literal in literals:
        if by_letter.get(abs(literal), literal) != literal:
            raise Unfit()
        by_letter[abs(literal)] = literal
    return tuple([by_letter[letter] for letter in sorted(by_letter)])


def owner_of(sentence, letter):
    """Return "e" or "s", whose letter it is."""
    return sentence[0][letter - 1]


def letters_of(sentence, owner):
    """Return the list of the letters of this owner, "e" or "s", ascending."""
    return [place + 1 for place, sign in enumerate(sentence[0]) if sign == owner]


def less(sentence, places):
    """Return the sentence without the clauses at these places."""
    owners, clauses = sentence
    return (owners, tuple([clause for place, clause in enumerate(clauses) if place not in places]))
