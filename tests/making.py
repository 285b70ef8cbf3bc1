"""Sentences, plays and papers for tests, made from seeded numbers, so the same in each run."""

import random

from eachsome.bounds import MAX_CLAUSES


def random_owners(dice, letters):
    return "".join([dice.choice("es") for _ in range(letters)])


def random_clause(dice, letters, most):
    chosen = sorted(dice.sample(range(1, letters + 1), dice.randint(0, min(most, letters))))
    return tuple([dice.choice((-1, 1)) * letter for letter in chosen])


def random_clauses(dice, letters, many, most):
    """At most this many unlike clauses, each of at most that many literals."""
    found = {}
    for _ in range(many):
        found[random_clause(dice, letters, most)] = True
    return tuple(found)


def random_sentence(dice, letters, many, most=3):
    return (random_owners(dice, letters), random_clauses(dice, letters, many, most))


def filled_sentence(dice, letters, many, most):
    """A sentence of just so many clauses; there have to be as many."""
    found = {}
    while len(found) < many:
        found[random_clause(dice, letters, most)] = True
    return (random_owners(dice, letters), tuple(found))


def sentences_of_all_sizes(seed):
    """Sentences from no letter to sixty and from no clause to 200."""
    dice = random.Random(seed)
    made = [("", ()), ("", ((),)), ("e" * 60, ()), ("s" * 60, ((),)), ("es" * 30, (tuple(range(-1, -61, -1)),))]
    for letters in range(61):
        for many in (0, 1, 2, 5):
            made.append(random_sentence(dice, letters, many, 4))
    for letters in (8, 9, 10, 30, 59, 60):
        made.append(filled_sentence(dice, letters, MAX_CLAUSES, letters))
    return made


def all_plays(letters):
    """All plays of so many letters, whole ones and others."""
    plays = [()]
    found = [()]
    for letter in range(1, letters + 1):
        plays = [play + (literal,) for play in plays for literal in (letter, -letter)]
        found.extend(plays)
    return found


def all_owners(letters):
    return [format(number, f"0{letters}b").replace("0", "e").replace("1", "s") if letters else ""
            for number in range(2 ** letters)]


def edits_of(text, signs):
    """Texts that one edit makes of text: a sign left out, doubled, put in, exchanged, or two neighbours turned."""
    made = [text + sign for sign in signs]
    for at in range(len(text)):
        made.append(text[:at] + text[at + 1:])
        made.append(text[:at] + text[at] + text[at:])
        made.append(text[:at] + text[at:at + 2][::-1] + text[at + 2:])
        for sign in signs:
            made.append(text[:at] + sign + text[at:])
            made.append(text[:at] + sign + text[at + 1:])
    return made


def spread(dice, sentence, paper, letters):
    """A sentence of more letters, and the paper carried there: letters keep their order, new ones stand between."""
    chosen = sorted(dice.sample(range(1, letters + 1), len(sentence[0])))
    names = {0: 0}
    for old, new in enumerate(chosen):
        names[old + 1], names[-old - 1] = new, -new
    owners = list(random_owners(dice, letters))
    for old, new in enumerate(chosen):
        owners[new - 1] = sentence[0][old]
    clauses = tuple([tuple([names[x] for x in clause]) for clause in sentence[1]])
    side, steps = paper
    carried = tuple([("lot", tuple([names[x] for x in step[1]])) if step[0] == "lot" else step for step in steps])
    return ("".join(owners), clauses), (side, carried)


def more_clauses(dice, sentence, many):
    """The sentence with at most so many further clauses behind its own."""
    found = {clause: True for clause in sentence[1]}
    for _ in range(many):
        found[random_clause(dice, len(sentence[0]), len(sentence[0]))] = True
    return (sentence[0], tuple(found))


def behind_others(ahead, paper):
    """The paper with all these steps put ahead of its own."""
    side, steps = paper
    moved = [(step[0], *[number + len(ahead) for number in step[1:]]) if step[0] in ("drop", "meet") else step
             for step in steps]
    return (side, tuple(ahead) + tuple(moved))
