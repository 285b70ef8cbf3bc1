"""What [G1] and [G2] tell of plain answers, as plainly as can be."""

from itertools import product

from tests.plain import plain_result, whole_number


def some_letters(owners):
    return [k for k in range(1, len(owners) + 1) if owners[k - 1] == "s"]


def plain_set(answer, letter, play):
    """The literal by which the letter is set by its plain answer."""
    return letter if answer[0] == "all" and set(answer[1]) <= set(play) else -letter


def plays_by(sentence, answers):
    """All whole plays in which SOME answers so."""
    told = dict(answers)
    plays = [()]
    for k, owner in enumerate(sentence[0]):
        if owner == "s":
            plays = [play + (plain_set(told[k + 1], k + 1, play),) for play in plays]
        else:
            plays = [play + (literal,) for play in plays for literal in (k + 1, -k - 1)]
    return plays


def plain_wins(sentence, answers):
    return all(plain_result(sentence, play) == "some" for play in plays_by(sentence, answers))


def plain_answer(owners, letter, value):
    """Whether value is a plain answer for the letter."""
    if type(value) is not tuple or value == ("no",):
        return type(value) is tuple
    if len(value) != 2 or value[0] != "all" or type(value[1]) is not tuple:
        return False
    if not all([whole_number(literal) for literal in value[1]]):
        return False
    letters = [abs(literal) for literal in value[1]]
    return letters == sorted(set(letters)) and all([0 < k < letter and owners[k - 1] == "e" for k in letters])


def plain_answers_error(sentence, value):
    """What answers_error returns; "unfit" if it raises Unfit."""
    owners, clauses = sentence
    letters = some_letters(owners)
    if any([len([k for k in clause if k in letters]) > 2 for clause in clauses]):
        return "unfit"
    if type(value) is not tuple or len(value) != len(letters):
        return "form"
    if not all([type(item) is tuple and len(item) == 2 for item in value]):
        return "form"
    for place, letter in enumerate(letters):
        if not whole_number(value[place][0]) or value[place][0] != letter:
            return ("letter", place)
        if not plain_answer(owners, letter, value[place][1]):
            return ("answer", place)
    plays = plays_by(sentence, value)
    for place, clause in enumerate(clauses):
        if not all([set(clause) & set(play) for play in plays]):
            return ("fails", place)
    return None


def all_answers(owners, letter):
    """All plain answers for this letter."""
    letters = [k for k in range(1, letter) if owners[k - 1] == "e"]
    found = [("no",)]
    for signs in product((0, 1, -1), repeat=len(letters)):
        found.append(("all", tuple([sign * k for sign, k in zip(signs, letters) if sign])))
    return found


def winning_answers(sentence):
    """All plain answers of the sentence that win, one behind another."""
    letters = some_letters(sentence[0])
    for chosen in product(*[all_answers(sentence[0], letter) for letter in letters]):
        answers = tuple(zip(letters, chosen))
        if plain_wins(sentence, answers):
            yield answers


def random_answer(dice, owners, letter):
    if dice.random() < 0.25:
        return ("no",)
    letters = [k for k in range(1, letter) if owners[k - 1] == "e" and dice.random() < 0.4]
    return ("all", tuple([dice.choice((-1, 1)) * k for k in letters]))


def random_answers(dice, owners):
    return tuple([(letter, random_answer(dice, owners, letter)) for letter in some_letters(owners)])
