"""Papers, which tell who wins a sentence, and the judge of them."""

from eachsome.bounds import MAX_STEPS
from eachsome.errors import Unfit
from eachsome.rows import HOLDERS, clashes, dropped, met
from eachsome.sentences import is_clause, is_number, owner_of


def has_paper_form(value):
    """Tell whether value is a pair of a side and as many items as a paper may have."""
    if not isinstance(value, tuple) or len(value) != 2:
        return False
    side, steps = value
    return isinstance(side, str) and side in HOLDERS and isinstance(steps, tuple) and 1 <= len(steps) <= MAX_STEPS


def is_step(value, side, letters):
    """Tell whether value has the form of a step of this side, for so many letters."""
    if not isinstance(value, tuple) or not value:
        return False
    word = value[0]
    if word == "lot":
        return side == "yes" and len(value) == 2 and is_clause(value[1], letters)
    if word == "meet":
        return len(value) == 3 and is_number(value[1]) and is_number(value[2])
    if word == "drop" or (word == "clause" and side == "no"):
        return len(value) == 2 and is_number(value[1])
    return False


def rows_used(step):
    """Return the numbers of rows ahead that a step tells."""
    return step[1:] if step[0] in ("drop", "meet") else ()


def row_made(sentence, side, step, rows):
    """Return the row of a right step, rows being those ahead."""
    word = step[0]
    if word == "clause":
        return sentence[1][step[1]]
    if word == "lot":
        return step[1]
    if word == "drop":
        return dropped(sentence[0], side, rows[step[1]])
    return met(rows[step[1]], rows[step[2]])


def clauses_by_literal(clauses):
    """Return for each literal the clauses that have it: a number with a bit for each clause."""
    found = {}
    for place, clause in enumerate(clauses):
        for literal in clause:
            found[literal] = found.get(literal, 0) | (1 << place)
    return found


def in_all_clauses(row, having, many):
    """Tell whether row has a literal in common with each of many clauses, having telling which have which."""
    reached = 0
    for literal in row:
        reached = reached | having.get(literal, 0)
    return reached == (1 << many) - 1


def can_meet(sentence, side, one, other):
    """Tell whether two rows clash in just one letter, and this one is the other party's."""
    letters = clashes(one, other)
    return len(letters) == 1 and owner_of(sentence, letters[0]) != HOLDERS[side]


def step_fault(sentence, side, step, rows, having):
    """Return None if step is right behind these rows, otherwise the word that tells what is wrong."""
    if not is_step(step, side, len(sentence[0])):
        return "step"
    if not all([0 <= number < len(rows) for number in rows_used(step)]):
        return "row"
    word = step[0]
    if word == "clause":
        return None if 0 <= step[1] < len(sentence[1]) else "clause"
    if word == "lot":
        return None if in_all_clauses(step[1], having, len(sentence[1])) else "lot"
    row = rows[step[1]]
    if word == "drop":
        return None if dropped(sentence[0], side, row) != row else "idle"
    return None if can_meet(sentence, side, row, rows[step[2]]) else "clash"


def paper_error(sentence, value):
    """Return None for a paper of the sentence, otherwise what is wrong with value."""
    if not has_paper_form(value):
        return "form"
    side, steps = value
    having = clauses_by_literal(sentence[1])
    rows = []
    for place, step in enumerate(steps):
        word = step_fault(sentence, side, step, rows, having)
        if word is not None:
            return (place, word)
        rows.append(row_made(sentence, side, step, rows))
    return None if rows[-1] == () else "end"


def rows_of(sentence, paper):
    """Return the tuple of all rows of a paper of the sentence."""
    side, steps = paper
    rows = []
    for step in steps:
        rows.append(row_made(sentence, side, step, rows))
    return tuple(rows)


def needed_places(steps):
    """Return the ascending list of the places of the needed steps."""
    needed = [False] * len(steps)
    needed[-1] = True
    for place in reversed(range(len(steps))):
        if needed[place]:
            for number in rows_used(steps[place]):
                needed[number] = True
    return [place for place in range(len(steps)) if needed[place]]


def renumbered(step, numbers):
    """Return the step with the rows ahead told by their new numbers."""
    used = rows_used(step)
    return (step[0], *[numbers[number] for number in used]) if used else step


def trimmed(paper):
    """Return the paper of the needed steps of a paper alone."""
    side, steps = paper
    places = needed_places(steps)
    numbers = {place: number for number, place in enumerate(places)}
    return (side, tuple([renumbered(steps[place], numbers) for place in places]))


def clauses_used(paper):
    """Return the ascending tuple of the places of the clauses that a no-paper tells."""
    side, steps = paper
    if side == "yes":
        raise Unfit()
    return tuple(sorted({step[1] for step in steps if step[0] == "clause"}))
