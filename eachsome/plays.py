"""Plays of a sentence: literals of its letters, set one behind another."""

from eachsome.sentences import is_number


def play_error(sentence, value):
    """Return None for a play of the sentence, otherwise what is wrong with value."""
    if not isinstance(value, tuple) or len(value) > len(sentence[0]):
        return "form"
    for place, move in enumerate(value):
        if not is_number(move) or abs(move) != place + 1:
            return ("move", place)
    return None


def state_of(clause, play):
    """Return "true", "lost" or "open", as the clause is in the play."""
    state = "lost"
    for literal in clause:
        if abs(literal) > len(play):
            state = "open"
        elif play[abs(literal) - 1] == literal:
            return "true"
    return state


def result(sentence, play):
    """Return "some" or "each", whoever wins this whole play."""
    return "some" if all([state_of(clause, play) == "true" for clause in sentence[1]]) else "each"
