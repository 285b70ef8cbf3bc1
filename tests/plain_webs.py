"""What [G4] tells of webs, as plainly as can be; and sentences of at most two letters a clause."""

import random
from itertools import combinations, product

from tests.making import random_owners
from tests.plain import ordered


def literals_in_order(letters):
    return [literal for k in range(1, letters + 1) for literal in (k, -k)]


def plain_straight(sentence, one):
    """By asking for each literal whether there is the clause of it and of the contrary of this one."""
    owners, clauses = sentence
    found = {frozenset(clause) for clause in clauses}
    return tuple([other for other in literals_in_order(len(owners)) if frozenset((-one, other)) in found])


def plain_leads(sentence):
    """For each literal the tuple of all that it leads to: ever further, until nothing comes anew."""
    literals = literals_in_order(len(sentence[0]))
    ways = {one: {one} for one in literals}
    steps = {one: set(plain_straight(sentence, one)) for one in literals}
    for one in literals:
        fresh = {one}
        while fresh:
            fresh = set().union(*[steps[other] for other in fresh]) - ways[one]
            ways[one] |= fresh
    return {one: tuple([other for other in literals if other in ways[one]]) for one in literals}


def plain_fault(sentence):
    owners, clauses = sentence
    leads = plain_leads(sentence)
    literals = literals_in_order(len(owners))
    each = [literal for literal in literals if owners[abs(literal) - 1] == "e"]
    some = [literal for literal in literals if literal not in each]
    faults = [("empty", place) for place in range(len(clauses)) if clauses[place] == ()]
    faults += [("each", a, b) for a in each for b in each if a != b and b in leads[a]]
    faults += [("knot", x) for x in some if x > 0 and -x in leads[x] and x in leads[-x]]
    faults += [("late", a, b) for a in some for b in each if abs(b) > abs(a) and b in leads[a] and a in leads[b]]
    return faults[0] if faults else None


def all_clauses(letters):
    """All clauses of so many letters with at most two literals."""
    found = [()]
    for many in (1, 2):
        for chosen in combinations(range(1, letters + 1), many):
            found.extend([tuple([sign * k for sign, k in zip(signs, chosen)]) for signs in product((1, -1), repeat=many)])
    return found


def way_clauses(way):
    """The clauses by which each literal of the way leads straight to the next one."""
    return [ordered({-one, other}) for one, other in zip(way, way[1:])]


def two_sentence(dice, letters, many):
    """A sentence without the clause (), of clauses of two literals for the most part, some of them ways round."""
    clauses = {}
    while len(clauses) < many:
        if letters > 1 and dice.random() < 0.9:
            one, other = [dice.choice((-1, 1)) * k for k in dice.sample(range(1, letters + 1), 2)]
            clauses[ordered((one, other))] = True
            if dice.random() < 0.5:
                clauses[ordered((-one, -other))] = True
        else:
            clauses[(dice.choice((-1, 1)) * dice.randint(1, letters),)] = True
        many -= 1
    return (random_owners(dice, letters), tuple(clauses))


def few_of_each(dice, sentence):
    """The sentence with a few letters of EACH's, the rest of them given to SOME."""
    owners = ["s"] * len(sentence[0])
    for _ in range(dice.randint(0, 4)):
        owners[dice.randrange(len(owners))] = "e"
    return ("".join(owners), sentence[1])


def great_sentences(seed, many):
    dice = random.Random(seed)
    for number in range(many):
        letters = dice.randint(40, 60)
        sentence = two_sentence(dice, letters, dice.choice((20, 30, 40, 60, 200)))
        yield few_of_each(dice, sentence) if number % 3 else sentence


def chained(seed, many):
    """Sentences with long ways, between shuffled letters; each with the word of the fault that they bring about."""
    dice = random.Random(seed)
    for number in range(many):
        letters = dice.randint(6, 60)
        names = [dice.choice((-1, 1)) * k for k in dice.sample(range(1, letters + 1), letters)]
        word = ("each", "knot", "late", None)[number % 4]
        owners = ["s"] * letters
        if word == "each":
            owners[abs(names[0]) - 1] = owners[abs(names[-1]) - 1] = "e"
            clauses = way_clauses(names)
        elif word == "knot":
            middle = dice.randint(1, letters - 1)
            clauses = way_clauses(names[:middle] + [-names[0]]) + way_clauses([-names[0]] + names[middle:] + [names[0]])
        else:
            middle = dice.randint(1, letters - 1)
            last = dice.randint(middle, letters - 1)
            names.sort(key=lambda name: abs(name) == (letters if word == "late" else 1))
            names[last], names[-1] = names[-1], names[last]
            owners[abs(names[last]) - 1] = "e"
            clauses = way_clauses(names + [names[0]])
        dice.shuffle(clauses)
        yield word, ("".join(owners), tuple(dict.fromkeys(clauses)))
