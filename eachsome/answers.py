"""Plain answers: how SOME sets each letter, by a look at some of EACH's letters, or at none."""

from eachsome.errors import Unfit
from eachsome.sentences import is_clause, is_number, letters_of, owner_of


def some_literals(sentence, clause):
    """Return the literals of SOME's in the clause."""
    return [literal for literal in clause if owner_of(sentence, abs(literal)) == "s"]


def check_positive(sentence):
    """Raise Unfit if some clause has more than two positive literals of SOME's letters."""
    for clause in sentence[1]:
        if len([literal for literal in some_literals(sentence, clause) if literal > 0]) > 2:
            raise Unfit()


def has_answers_form(sentence, value):
    """Tell whether value is a tuple of as many pairs as the sentence has letters of SOME's."""
    if not isinstance(value, tuple) or len(value) != sentence[0].count("s"):
        return False
    return all([isinstance(item, tuple) and len(item) == 2 for item in value])


def is_answer(sentence, letter, value):
    """Tell whether value is a plain answer for this letter of SOME's."""
    if not isinstance(value, tuple) or not value or not isinstance(value[0], str):
        return False
    if value[0] == "no":
        return len(value) == 1
    if value[0] != "all" or len(value) != 2 or not is_clause(value[1], letter - 1):
        return False
    return not some_literals(sentence, value[1])


def pairs_fault(sentence, pairs):
    """Return what is wrong with the first pair that is not right, None if all are."""
    for place, letter in enumerate(letters_of(sentence, "s")):
        given, answer = pairs[place]
        if not is_number(given) or given != letter:
            return ("letter", place)
        if not is_answer(sentence, letter, answer):
            return ("answer", place)
    return None


def world_of(literals):
    """Return a dict in which all these literals are True and their contraries False, None if they are at odds."""
    world = {}
    for literal in literals:
        if not world.get(literal, True):
            return None
        world[literal] = True
        world[-literal] = False
    return world


def breaking_world(sentence, told, clause):
    """Return what EACH has to set to make the literals of EACH's, and all contraries, in the clause untrue.

    None if EACH cannot. The answers are told by letters.
    """
    literals = []
    for literal in clause:
        if owner_of(sentence, abs(literal)) == "e":
            literals.append(-literal)
        elif literal < 0:
            answer = told[-literal]
            if answer[0] == "no":
                return None
            literals.extend(answer[1])
    return world_of(literals)


def literals_to_break(answer, world):
    """Return the literals one of which EACH has to make untrue, so that SOME answers no; 0 if that is the answer."""
    if answer[0] == "no":
        return [0]
    return [literal for literal in answer[1] if not world.get(literal, False)]


def can_fail(sentence, told, clause):
    """Tell whether EACH can make all literals of the clause untrue, SOME answering as told by letters."""
    world = breaking_world(sentence, told, clause)
    if world is None:
        return False
    positive = [literal for literal in some_literals(sentence, clause) if literal > 0]
    choices = [literals_to_break(told[letter], world) for letter in positive] + [[0], [0]]
    # There are two positive literals at most; those in place of missing ones are never at odds.
    return any([one == 0 or one != -other for one in choices[0] for other in choices[1]])


def answers_error(sentence, value):
    """Return None for plain answers of the sentence that win, otherwise what is wrong with value."""
    check_positive(sentence)
    if not has_answers_form(sentence, value):
        return "form"
    fault = pairs_fault(sentence, value)
    if fault is not None:
        return fault
    told = {letter: answer for letter, answer in value}
    for place, clause in enumerate(sentence[1]):
        if can_fail(sentence, told, clause):
            return ("fails", place)
    return None


def answers_reply(answers, play):
    """Return the literal by which the next letter, one of SOME's, is set."""
    letter = len(play) + 1
    answer = [told for given, told in answers if given == letter][0]
    if answer[0] == "all" and all([literal in play for literal in answer[1]]):
        return letter
    return -letter
