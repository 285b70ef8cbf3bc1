"""What [F1] to [F3] tell of lessening steps, as plainly as can be."""

from tests.plain import holder_letters, plain_dropped, whole_number

WORDS = {"drop": 2, "unit": 2, "lone": 2, "covered": 3}


def plain_does(sentence, step):
    """Whether a step with right places or a right letter is a lessening step."""
    owners, clauses = sentence
    word, at = step[:2]
    if word == "drop":
        return plain_dropped(owners, "no", clauses[at]) != clauses[at]
    if word == "unit":
        return len(clauses[at]) == 1 and abs(clauses[at][0]) in holder_letters(owners, "yes")
    if word == "lone":
        literals = {literal for clause in clauses for literal in clause}
        return at in literals and -at not in literals
    return set(clauses[step[2]]) <= set(clauses[at])


def plain_step_error(sentence, value):
    owners, clauses = sentence
    if type(value) is not tuple or not value or type(value[0]) is not str:
        return "form"
    if len(value) != WORDS.get(value[0]) or not all([whole_number(item) for item in value[1:]]):
        return "form"
    if value[0] == "lone":
        if value[1] == 0 or not -len(owners) <= value[1] <= len(owners):
            return "letter"
    elif any([place < 0 or place >= len(clauses) for place in value[1:]]) or len(set(value[1:])) < len(value) - 1:
        return "place"
    return None if plain_does(sentence, value) else "idle"


def plain_done(sentence, step):
    owners, clauses = sentence
    left = [list(clause) for clause in clauses]
    word, at = step[:2]
    literal = left[at][0] if word == "unit" else at
    if word == "drop":
        left[at] = list(plain_dropped(owners, "no", clauses[at]))
    elif word == "covered":
        left[at] = None
    elif word == "lone" and owners[abs(at) - 1] == "e":
        left = [[item for item in clause if item != at] for clause in left]
    else:
        left = [None if literal in clause else [item for item in clause if item != -literal] for clause in left]
    kept = []
    for clause in left:
        if clause is not None and tuple(clause) not in kept:
            kept.append(tuple(clause))
    return (owners, tuple(kept))


def all_steps(sentence):
    """All steps with right places or letters, in the order in which the first one is done."""
    many = range(len(sentence[1]))
    for word in ("drop", "unit"):
        for place in many:
            yield (word, place)
    for letter in range(1, len(sentence[0]) + 1):
        yield ("lone", letter)
        yield ("lone", -letter)
    for place in many:
        for other in many:
            if place != other:
                yield ("covered", place, other)


def found_steps(sentence):
    """All lessening steps of the sentence, in the order in which the first one is done."""
    owners, clauses = sentence
    sets = [set(clause) for clause in clauses]
    literals = set().union(*sets)
    for step in all_steps(sentence):
        word, at = step[:2]
        if word == "lone":
            does = at in literals and -at not in literals
        elif word == "covered":
            does = sets[step[2]] <= sets[at]
        else:
            does = plain_does(sentence, step)
        if does:
            yield step


def lessening_steps(sentence):
    return list(found_steps(sentence))


def plain_lessened(sentence):
    steps = []
    step = next(found_steps(sentence), None)
    while step is not None:
        steps.append(step)
        sentence = plain_done(sentence, step)
        step = next(found_steps(sentence), None)
    return (sentence, tuple(steps))


def many_literals(sentence):
    return sum([len(clause) for clause in sentence[1]])
