"""Solving sentences of at most two letters a clause, by their webs."""

from eachsome.drafts import Draft
from eachsome.sentences import clause_of, letters_of, owner_of
from eachsome.webs import in_order, led_by, web_of


def literals_of(sentence, owner):
    """Return the literals of all letters of this owner, in order."""
    return [literal for letter in letters_of(sentence, owner) for literal in (letter, -letter)]


def leads_of(sentence):
    """Return a dict from each literal to the tuple, in order, of all literals that it leads to."""
    web = web_of(sentence)
    return {literal: in_order(len(sentence[0]), led_by(web, literal)) for literal in web}


def each_fault(sentence, leads):
    """Return ("each", a, b) for the first literal of EACH's that leads to another one, None if there is none."""
    literals = literals_of(sentence, "e")
    for one in literals:
        for other in leads[one]:
            if other != one and other in literals:
                return ("each", one, other)
    return None


def knot_fault(sentence, leads):
    """Return ("knot", x) for the first letter of SOME's that leads to its contrary and back, None if there is none."""
    for literal in literals_of(sentence, "s"):
        if -literal in leads[literal] and literal in leads[-literal]:
            return ("knot", abs(literal))
    return None


def late_fault(sentence, leads):
    """Return ("late", a, b) for the first literals of SOME's, and of EACH's behind it, that lead to one another."""
    literals = literals_of(sentence, "e")
    for one in literals_of(sentence, "s"):
        for other in leads[one]:
            if other in literals and abs(other) > abs(one) and one in leads[other]:
                return ("late", one, other)
    return None


def fault_by(sentence, leads):
    """Return why SOME does not win, leads telling which literals lead to which; None if SOME wins."""
    if () in sentence[1]:
        return ("empty", sentence[1].index(()))
    fault = each_fault(sentence, leads)
    if fault is None:
        fault = knot_fault(sentence, leads)
    return late_fault(sentence, leads) if fault is None else fault


def two_fault(sentence):
    """Return the first thing in the sentence by which SOME does not win, None if there is none."""
    return fault_by(sentence, leads_of(sentence))


def literals_ahead(sentence, start):
    """Return a dict from each literal that start leads to through SOME's literals alone to the one ahead of it.

    The nearer ones stand first.
    """
    web = web_of(sentence)
    ahead = {start: start}
    line = [start]
    place = 0
    while place < len(line):
        one = line[place]
        place += 1
        if one == start or owner_of(sentence, abs(one)) == "s":
            for other in web[one]:
                if other not in ahead:
                    ahead[other] = one
                    line.append(other)
    return ahead


def shortest_way(sentence, start, ends):
    """Return a shortest way from start to one of ends, through SOME's literals alone; start is none of ends."""
    ahead = literals_ahead(sentence, start)
    reached = [literal for literal in ahead if literal in ends]
    way = [reached[0]]
    while way[-1] != start:
        way.append(ahead[way[-1]])
    return way[::-1]


def way_row(draft, sentence, way):
    """Return the number of the row that the clauses of the way make: the contrary of its start, and its end."""
    number = None
    for one, other in zip(way, way[1:]):
        clause = clause_of((-one, other))
        step = ("clause", sentence[1].index(clause))
        here = draft.put(step, clause)
        number = here if number is None else draft.joined(number, here)
        if len(clause) == 1:
            # The row is the contrary of the start alone: the rest of the way is not needed.
            return number
    return number


def dropped_way(draft, sentence, start, ends):
    """Return the number of the row of a shortest way from start to one of ends, behind its drop."""
    return draft.shortened(way_row(draft, sentence, shortest_way(sentence, start, ends)))


def paper_by(sentence, fault):
    """Return a no-paper of the sentence that has this fault, the first one of it."""
    draft = Draft(sentence[0], "no")
    word = fault[0]
    if word == "empty":
        return draft.paper(draft.put(("clause", fault[1]), ()))
    if word == "each":
        others = [literal for literal in literals_of(sentence, "e") if literal != fault[1]]
        return draft.paper(dropped_way(draft, sentence, fault[1], others))
    there = fault[1]
    back = -there if word == "knot" else fault[2]
    one = dropped_way(draft, sentence, there, (back,))
    other = dropped_way(draft, sentence, back, (there,))
    return draft.paper(draft.joined(one, other))


def literals_into(leads, literals, literal):
    """Return those of the literals that lead to this one."""
    return [one for one in literals if literal in leads[one]]


def free_set(free, leads):
    """Return a dict whose keys are the literals by which these free letters are set for good."""
    chosen = {}
    for letter in free:
        if letter not in chosen and -letter not in chosen:
            literal = -letter if -letter in leads[letter] else letter
            for other in leads[literal]:
                if abs(other) in free:
                    chosen[other] = True
    return chosen


def answers_by(sentence, leads):
    """Return plain answers that win, of at most one literal each, for a sentence without a fault."""
    literals = literals_of(sentence, "e")
    letters = letters_of(sentence, "s")
    for_yes = {letter: literals_into(leads, literals, letter) for letter in letters}
    for_no = {letter: literals_into(leads, literals, -letter) for letter in letters}
    chosen = free_set([letter for letter in letters if not for_yes[letter] and not for_no[letter]], leads)
    answers = []
    for letter in letters:
        if for_yes[letter] and for_no[letter]:
            answers.append((letter, ("all", (for_yes[letter][0],))))
        elif for_yes[letter] or letter in chosen:
            answers.append((letter, ("all", ())))
        else:
            answers.append((letter, ("no",)))
    return tuple(answers)


def two_solved(sentence):
    """Return ("yes", plain answers that win) or ("no", a no-paper of the sentence)."""
    leads = leads_of(sentence)
    fault = fault_by(sentence, leads)
    if fault is None:
        return ("yes", answers_by(sentence, leads))
    return ("no", paper_by(sentence, fault))
