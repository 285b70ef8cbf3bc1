"""Papers and plain answers of a sentence that was made less, carried back to the sentence itself."""

from eachsome.drafts import Draft
from eachsome.lessening import done_step, literal_set, origins_behind


def literals_set(sentence, steps):
    """Return the literals of SOME's that the lessening steps take to be true."""
    literals = []
    for step in steps:
        literal = literal_set(sentence, step)
        if literal:
            literals.append(literal)
        sentence = done_step(sentence, step)
    return literals


def number_behind(draft, step, number, unit_number):
    """Return the number of the row of a clause that the step made less, number being that of its row ahead."""
    if step[0] == "drop":
        return draft.shortened(number)
    if step[0] == "unit":
        return draft.joined(number, unit_number)
    # By "lone" of EACH's literal this one stays in the row: a drop at the end of the paper takes it.
    return number


def clause_numbers(draft, sentence, steps):
    """Return the numbers of rows for all clauses behind the steps, made in the draft from those of the sentence."""
    numbers = [draft.put(("clause", place), clause) for place, clause in enumerate(sentence[1])]
    for step in steps:
        origins = origins_behind(sentence, step)
        unit_number = numbers[step[1]] if step[0] == "unit" else None
        behind = []
        for clause, place in origins.items():
            if clause == sentence[1][place]:
                behind.append(numbers[place])
            else:
                behind.append(number_behind(draft, step, numbers[place], unit_number))
        numbers = behind
        sentence = (sentence[0], tuple(origins))
    return numbers


def wider_lot(row, literals):
    """Return the row with these literals put in, each in the place of its contrary if this stands there."""
    by_letter = {abs(literal): literal for literal in list(row) + literals}
    return tuple([by_letter[letter] for letter in sorted(by_letter)])


def number_again(draft, step, numbers):
    """Return the number of the row that a drop or meet makes again, numbers being those of the rows ahead."""
    told = [numbers[number] for number in step[1:]]
    return draft.shortened(told[0]) if step[0] == "drop" else draft.joined(told[0], told[1])


def carried(sentence, steps, paper):
    """Return a paper of the sentence, made from a paper of the sentence behind the lessening steps."""
    side, made = paper
    draft = Draft(sentence[0], side)
    by_place = clause_numbers(draft, sentence, steps) if side == "no" else []
    literals = literals_set(sentence, steps)
    numbers = []
    for step in made:
        if step[0] == "clause":
            numbers.append(by_place[step[1]])
        elif step[0] == "lot":
            row = wider_lot(step[1], literals)
            numbers.append(draft.put(("lot", row), row))
        else:
            numbers.append(number_again(draft, step, numbers))
    # The last row has no literals but those that were left out or put in, all of them the holder's.
    return draft.paper(draft.shortened(numbers[-1]))


def answers_carried(sentence, steps, answers):
    """Return plain answers that win the sentence, made from such of the sentence behind the lessening steps."""
    always = {abs(literal): ("all", ()) if literal > 0 else ("no",) for literal in literals_set(sentence, steps)}
    return tuple([(letter, always.get(letter, answer)) for letter, answer in answers])
