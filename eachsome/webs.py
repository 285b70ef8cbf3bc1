"""The web of a sentence of at most two letters a clause: which literals lead to which."""

from eachsome.errors import Unfit


def in_order(letters, literals):
    """Return the tuple of these literals of the letters from 1 to letters, by letters, k ahead of -k."""
    return tuple([literal for k in range(1, letters + 1) for literal in (k, -k) if literal in literals])


def has_short_clauses(sentence):
    """Tell whether no clause of the sentence has more than two literals."""
    return all([len(clause) <= 2 for clause in sentence[1]])


def web_of(sentence):
    """Return a dict from each literal to the tuple, in order, of those that it leads straight to."""
    owners, clauses = sentence
    if not has_short_clauses(sentence):
        raise Unfit()
    leads = {sign * k: {} for k in range(1, len(owners) + 1) for sign in (1, -1)}
    for clause in clauses:
        # A clause of one literal leads from its contrary, as if the literal stood there twice.
        if clause:
            leads[-clause[0]][clause[-1]] = True
            leads[-clause[-1]][clause[0]] = True
    return {literal: in_order(len(owners), found) for literal, found in leads.items()}


def led_by(web, literal):
    """Return a dict whose keys are all literals that the literal leads to."""
    reached = {literal: True}
    fresh = [literal]
    while fresh:
        one = fresh.pop()
        for other in web[one]:
            if other not in reached:
                reached[other] = True
                fresh.append(other)
    return reached


def straight(sentence, literal):
    """Return the tuple, in order, of all literals that the literal leads straight to."""
    return web_of(sentence)[literal]


def led(sentence, literal):
    """Return the tuple, in order, of all literals that the literal leads to."""
    return in_order(len(sentence[0]), led_by(web_of(sentence), literal))
