"""Sentences squeezed to the letters that stand in clauses, and what is found of these, carried back."""

from eachsome.sentences import letters_of


def standing_letters(sentence):
    """Return the ascending tuple of the letters that stand in some clause."""
    return tuple(sorted({abs(literal) for clause in sentence[1] for literal in clause}))


def called(literals, names):
    """Return the literals with their letters called by these names."""
    return tuple([names[literal] if literal > 0 else -names[-literal] for literal in literals])


def squeezed(sentence):
    """Return the sentence of the letters that stand in some clause, called 1, 2, .. anew, and these letters."""
    owners, clauses = sentence
    letters = standing_letters(sentence)
    names = {letter: place + 1 for place, letter in enumerate(letters)}
    found = "".join([owners[letter - 1] for letter in letters])
    return ((found, tuple([called(clause, names) for clause in clauses])), letters)


def elder_names(sentence):
    """Return a dict from the letters of the squeezed sentence to what they are called in the sentence."""
    return {place + 1: letter for place, letter in enumerate(standing_letters(sentence))}


def unsqueezed(sentence, paper):
    """Return the paper of the squeezed sentence with its letters called as in the sentence."""
    names = elder_names(sentence)
    side, steps = paper
    return (side, tuple([("lot", called(step[1], names)) if step[0] == "lot" else step for step in steps]))


def answer_called(answer, names):
    """Return the plain answer with its letters called by these names."""
    return answer if answer[0] == "no" else ("all", called(answer[1], names))


def answers_unsqueezed(sentence, answers):
    """Return the plain answers of the squeezed sentence as those of the sentence; letters in no clause are set no."""
    names = elder_names(sentence)
    told = {names[letter]: answer_called(answer, names) for letter, answer in answers}
    return tuple([(letter, told.get(letter, ("no",))) for letter in letters_of(sentence, "s")])
