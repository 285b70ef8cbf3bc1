"""Solving Horn sentences: those with at most one positive literal in each clause."""

from eachsome.drafts import Draft
from eachsome.errors import Unfit
from eachsome.sentences import letters_of, owner_of


def head_of(clause):
    """Return the positive literal of a clause of a Horn sentence, 0 if there is none."""
    return max([0] + list(clause))


def is_horn(sentence):
    """Tell whether each clause of the sentence has at most one positive literal."""
    return all([len([literal for literal in clause if literal > 0]) <= 1 for clause in sentence[1]])


def check_horn(sentence):
    """Raise Unfit if the sentence is not Horn."""
    if not is_horn(sentence):
        raise Unfit()


def needed_letters(sentence, clause):
    """Return the letters of SOME's whose contraries stand in the clause."""
    return [-literal for literal in clause if literal < 0 and owner_of(sentence, -literal) == "s"]


def further_rules(sentence, letter):
    """Return what may make letters of SOME's beyond letter yes-letters at it.

    That is, for each such clause, its place, its positive literal, and the letters that have to be yes-letters ahead.
    """
    rules = []
    for place, clause in enumerate(sentence[1]):
        head = head_of(clause)
        if head > letter and owner_of(sentence, head) == "s" and -letter not in clause:
            rules.append((place, head, needed_letters(sentence, clause)))
    return rules


def with_further(sentence, letter, makers):
    """Return makers with the further yes-letters at letter, each behind those on which it hangs.

    That is a dict from each yes-letter to the place of a clause that makes it one.
    """
    found = {made: makers[made] for made in makers}
    rules = further_rules(sentence, letter)
    many = -1
    while many < len(found):
        many = len(found)
        for place, head, needed in rules:
            if head not in found and all([one in found for one in needed]):
                found[head] = place
    return found


def makers_at(sentence, letter, at_first):
    """Return the dict from the yes-letters at letter to what makes them so, at_first being that at 0."""
    if letter == 0:
        return at_first
    return with_further(sentence, letter, {made: at_first[made] for made in at_first if made < letter})


def yes_letters(sentence, letter):
    """Return the ascending tuple of the yes-letters at letter."""
    check_horn(sentence)
    if letter != 0 and letter not in letters_of(sentence, "e"):
        raise Unfit()
    return tuple(sorted(makers_at(sentence, letter, with_further(sentence, 0, {}))))


def failing_place(sentence, letter, makers):
    """Return the place of the first clause that fails at letter, None if there is none."""
    for place, clause in enumerate(sentence[1]):
        if head_of(clause) == letter and all([one in makers for one in needed_letters(sentence, clause)]):
            return place
    return None


def first_failing(sentence, at_first):
    """Return the least letter, 0 or one of EACH's, at which a clause fails, and the place of that clause; or None."""
    for letter in [0] + letters_of(sentence, "e"):
        place = failing_place(sentence, letter, makers_at(sentence, letter, at_first))
        if place is not None:
            return (letter, place)
    return None


def once_no(sentence):
    """Return the least letter, 0 or one of EACH's, at which some clause fails, None if there is none."""
    check_horn(sentence)
    found = first_failing(sentence, with_further(sentence, 0, {}))
    return None if found is None else found[0]


def answers_at(sentence, at_first):
    """Return plain answers that win, each with positive literals alone; no clause fails anywhere."""
    makers = {letter: makers_at(sentence, letter, at_first) for letter in letters_of(sentence, "e")}
    answers = []
    for one in letters_of(sentence, "s"):
        literals = tuple([letter for letter in makers if letter < one and one not in makers[letter]])
        answers.append((one, ("all", literals) if one in at_first else ("no",)))
    return tuple(answers)


def put_clause(draft, sentence, place, numbers):
    """Return the number of what the clause makes: it meets the rows of the letters that it needs, and drops."""
    clause = sentence[1][place]
    number = draft.put(("clause", place), clause)
    for letter in needed_letters(sentence, clause):
        number = draft.joined(numbers[letter], number)
    return draft.shortened(number)


def put_makers(draft, sentence, makers, numbers):
    """Return a dict from each of makers to the number of a row, those in numbers with what stands there.

    The row has the letter itself, and contraries of lesser letters of EACH's.
    """
    found = {made: numbers[made] for made in numbers}
    for made, place in makers.items():
        if made not in found:
            found[made] = put_clause(draft, sentence, place, found)
    return found


def failing_paper(sentence, letter, place, at_first):
    """Return a no-paper of the sentence in which the clause at this place fails at letter."""
    draft = Draft(sentence[0], "no")
    numbers = put_makers(draft, sentence, at_first, {})
    # Rows of letters beyond this one are made anew, as its contrary may stand in those at 0.
    kept = {made: numbers[made] for made in numbers if letter == 0 or made < letter}
    kept = put_makers(draft, sentence, makers_at(sentence, letter, at_first), kept)
    return draft.paper(put_clause(draft, sentence, place, kept))


def horn_solved(sentence):
    """Return ("yes", plain answers that win) or ("no", a no-paper of the sentence)."""
    check_horn(sentence)
    at_first = with_further(sentence, 0, {})
    found = first_failing(sentence, at_first)
    if found is None:
        return ("yes", answers_at(sentence, at_first))
    return ("no", failing_paper(sentence, found[0], found[1], at_first))
