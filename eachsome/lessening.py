"""Lessening steps, which make a sentence less and keep who wins."""

from eachsome.rows import dropped
from eachsome.sentences import is_number, owner_of

# How many integers stand behind each word.
NUMBERS_BEHIND = {"drop": 1, "unit": 1, "lone": 1, "covered": 2}


def has_step_form(value):
    """Tell whether value is a tuple of one of the words and as many integers as belong to it."""
    if not isinstance(value, tuple) or not value or not isinstance(value[0], str):
        return False
    return len(value) - 1 == NUMBERS_BEHIND.get(value[0]) and all([is_number(number) for number in value[1:]])


def are_places(clauses, numbers):
    """Tell whether the numbers are unlike places of clauses."""
    return all([0 <= number < len(clauses) for number in numbers]) and len(set(numbers)) == len(numbers)


def stands_in(clauses, literal):
    """Tell whether some clause has the literal."""
    return any([literal in clause for clause in clauses])


def is_lessening(sentence, step):
    """Tell whether the step, its letter or places being those of the sentence, makes the sentence less."""
    owners, clauses = sentence
    word, at = step[0], step[1]
    if word == "lone":
        return stands_in(clauses, at) and not stands_in(clauses, -at)
    clause = clauses[at]
    if word == "drop":
        return dropped(owners, "no", clause) != clause
    if word == "unit":
        return len(clause) == 1 and owner_of(sentence, abs(clause[0])) == "s"
    return all([literal in clause for literal in clauses[step[2]]])


def step_error(sentence, value):
    """Return None for a lessening step of the sentence, otherwise what is wrong with value."""
    owners, clauses = sentence
    if not has_step_form(value):
        return "form"
    if value[0] == "lone":
        if not 1 <= abs(value[1]) <= len(owners):
            return "letter"
    elif not are_places(clauses, value[1:]):
        return "place"
    return None if is_lessening(sentence, value) else "idle"


def literal_set(sentence, step):
    """Return the literal of SOME's that the step takes to be true, 0 if it takes none so."""
    word, at = step[0], step[1]
    if word == "unit":
        return sentence[1][at][0]
    if word == "lone" and owner_of(sentence, abs(at)) == "s":
        return at
    return 0


def without(clause, literal):
    """Return the clause without the literal."""
    return tuple([item for item in clause if item != literal])


def pairs_behind(sentence, step):
    """Return a pair for each clause that stays: its place ahead of the step, and what it is behind it."""
    owners, clauses = sentence
    word, at = step[0], step[1]
    pairs = list(enumerate(clauses))
    true = literal_set(sentence, step)
    if true:
        return [(place, without(clause, -true)) for place, clause in pairs if true not in clause]
    if word == "lone":
        return [(place, without(clause, at)) for place, clause in pairs]
    if word == "drop":
        pairs[at] = (at, dropped(owners, "no", clauses[at]))
    else:
        del pairs[at]
    return pairs


def origins_behind(sentence, step):
    """Return a dict from each clause behind the step, in order, to the place ahead of it from which it came."""
    origins = {}
    for place, clause in pairs_behind(sentence, step):
        origins.setdefault(clause, place)
    return origins


def done_step(sentence, step):
    """Return the sentence behind the step."""
    return (sentence[0], tuple(origins_behind(sentence, step)))


def steps_error(sentence, value):
    """Return None for a tuple of lessening steps, one behind another, otherwise what is wrong with value."""
    if not isinstance(value, tuple):
        return "form"
    for place, step in enumerate(value):
        word = step_error(sentence, step)
        if word is not None:
            return (place, word)
        sentence = done_step(sentence, step)
    return None


def done_steps(sentence, steps):
    """Return the sentence behind all the steps."""
    for step in steps:
        sentence = done_step(sentence, step)
    return sentence


def first_at_place(sentence, word):
    """Return the first lessening step of this word, "drop" or "unit", None if there is none."""
    for place in range(len(sentence[1])):
        if is_lessening(sentence, (word, place)):
            return (word, place)
    return None


def first_lone(sentence):
    """Return the first lessening step "lone", None if there is none."""
    standing = {literal: True for clause in sentence[1] for literal in clause}
    for letter in range(1, len(sentence[0]) + 1):
        for literal in (letter, -letter):
            if literal in standing and -literal not in standing:
                return ("lone", literal)
    return None


def bits_of(clause):
    """Return a number with a bit for each literal of the clause."""
    bits = 0
    for literal in clause:
        bits = bits | (1 << (2 * abs(literal) + (1 if literal < 0 else 0)))
    return bits


def first_covered(sentence):
    """Return the first lessening step "covered", None if there is none."""
    # All pairs of up to 200 clauses are looked at: bits tell it faster than the clauses themselves.
    all_bits = [bits_of(clause) for clause in sentence[1]]
    for place, bits in enumerate(all_bits):
        for other, fewer in enumerate(all_bits):
            if bits & fewer == fewer and other != place:
                return ("covered", place, other)
    return None


def first_step(sentence):
    """Return the first lessening step in the order in which they are done, None if there is none."""
    for word in ("drop", "unit"):
        step = first_at_place(sentence, word)
        if step is not None:
            return step
    step = first_lone(sentence)
    return first_covered(sentence) if step is None else step


def lessened(sentence):
    """Return the sentence behind all steps that can be done, the first one each time, and these steps."""
    steps = []
    step = first_step(sentence)
    while step is not None:
        steps.append(step)
        sentence = done_step(sentence, step)
        step = first_step(sentence)
    return (sentence, tuple(steps))
