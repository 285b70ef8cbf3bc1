"""What [H1] tells of Horn sentences, as plainly as can be; and Horn sentences."""

import random

from tests.making import random_clause, random_owners
from tests.plain import ordered


def some_of(sentence, literals):
    return {abs(literal) for literal in literals if sentence[0][abs(literal) - 1] == "s"}


def plain_further(sentence, letter, known):
    """The least set that has all known letters, and each letter of SOME's beyond letter that a clause asks for."""
    found = set(known)
    while True:
        anew = set()
        for clause in sentence[1]:
            for x in clause:
                rest = [literal for literal in clause if literal != x]
                asks = x > letter and sentence[0][x - 1] == "s" and all([literal < 0 for literal in rest])
                if asks and -letter not in clause and some_of(sentence, rest) <= found:
                    anew.add(x)
        if anew <= found:
            return found
        found |= anew


def plain_yes(sentence, letter):
    at_first = plain_further(sentence, 0, ())
    if letter == 0:
        return at_first
    return plain_further(sentence, letter, {x for x in at_first if x < letter})


def plain_fails(sentence, clause, letter, yes):
    positive = [literal for literal in clause if literal > 0]
    return positive == ([letter] if letter else []) and some_of(sentence, clause) <= yes


def plain_once(sentence):
    for letter in range(len(sentence[0]) + 1):
        if letter == 0 or sentence[0][letter - 1] == "e":
            yes = plain_yes(sentence, letter)
            if any([plain_fails(sentence, clause, letter, yes) for clause in sentence[1]]):
                return letter
    return None


def told_answers(sentence):
    """The plain answers that [H3] tells."""
    owners = sentence[0]
    yes = {u: plain_yes(sentence, u) for u in range(len(owners) + 1) if u == 0 or owners[u - 1] == "e"}
    answers = []
    for x in range(1, len(owners) + 1):
        if owners[x - 1] == "s":
            against = tuple([u for u in yes if 0 < u < x and x not in yes[u]])
            answers.append((x, ("all", against) if x in yes[0] else ("no",)))
    return tuple(answers)


def horn_clause(dice, letters, most, positive):
    """A clause with at most one positive literal, with one as often as told."""
    clause = random_clause(dice, letters, most)
    chosen = dice.choice(clause) if clause and dice.random() < positive else 0
    return tuple([abs(literal) if literal == chosen else -abs(literal) for literal in clause])


def horn_sentence(dice, letters, many, most=3, positive=0.9, empty=False):
    found = {horn_clause(dice, letters, most, positive): True for _ in range(many)}
    return (random_owners(dice, letters), tuple([clause for clause in found if clause or empty]))


def horn_chain(dice, letters, owners, last):
    """A Horn sentence of clauses that ask for SOME's letters one behind another, in any order, and for last behind all.

    Now and then a clause has many literals.
    """
    some = [k + 1 for k, owner in enumerate(owners) if owner == "s"]
    each = [k + 1 for k, owner in enumerate(owners) if owner == "e"]
    dice.shuffle(some)
    clauses = []
    for place, x in enumerate(some):
        wide = dice.random() < 0.2
        rest = dice.sample(some[:place], min(place, 20 if wide else 1))
        lesser = dice.sample(each, min(len(each), 10 if wide else dice.randint(0, 1)))
        clauses.append(ordered([x] + [-y for y in rest] + [-u for u in lesser]))
    clauses.append(ordered([-y for y in some[-3:]] + ([last] if last else [])))
    dice.shuffle(clauses)
    return (owners, tuple(dict.fromkeys(clauses)))


def horn_chains(seed, many):
    dice = random.Random(seed)
    for number in range(many):
        letters = dice.randint(3, 60)
        owners = dice.choice((random_owners(dice, letters), "".join([dice.choice("essss") for _ in range(letters)])))
        each = [k + 1 for k, owner in enumerate(owners) if owner == "e"]
        last = dice.choice(each) if each and number % 2 else 0
        yield horn_chain(dice, letters, owners, last)


def great_horns(seed, many):
    """Horn sentences of sixty letters and about two hundred clauses, chains among them."""
    dice = random.Random(seed)
    for number in range(many):
        owners, clauses = horn_sentence(dice, 60, 150, dice.choice((2, 4, 20)), (0.9, 1, 0.99)[number % 3])
        if number % 2:
            owners, chain = horn_chain(dice, 60, owners, 0)
            clauses = tuple(dict.fromkeys(chain[:-1] + clauses))[:200]
        if number % 5 == 0:
            clauses = tuple([clause for clause in clauses if clause and max(clause) > 0 and owners[max(clause) - 1] == "s"])
        yield (owners, clauses)
