"""Formulas for tests, made from seeded numbers, so the same in each run."""

import random

WORDS = ("not", "and", "or", "same", "each", "some")
PLAIN_WORDS = ("not", "and", "or", "same")
NAMES = ("a", "b", "x", "y")
YES, NO = ("and", ()), ("or", ())
A, B, X, Y = [("letter", name) for name in NAMES]


def split_up(dice, many, parts):
    """So many parts of a number, each of them one at least."""
    places = sorted(dice.sample(range(1, many), parts - 1))
    return [high - low for low, high in zip([0] + places, places + [many])]


def random_formula(dice, nodes, names=NAMES, words=WORDS, deep=40):
    """A formula of just so many nodes, or fewer if they had to be deeper than this."""
    if nodes == 1 or deep == 1:
        return dice.choice([("letter", name) for name in names] * 3 + [YES, NO])
    word = dice.choice(words if nodes > 2 else [word for word in words if word in ("not", "each", "some")] or ["and"])
    if word in ("each", "some"):
        return (word, dice.choice(names), random_formula(dice, nodes - 1, names, words, deep - 1))
    if word == "not":
        return (word, random_formula(dice, nodes - 1, names, words, deep - 1))
    if nodes == 2:
        return dice.choice((YES, NO))
    many = 2 if word == "same" else dice.randint(2, min(nodes - 1, 4))
    parts = [random_formula(dice, share, names, words, deep - 1) for share in split_up(dice, nodes - 1, many)]
    return (word, *parts) if word == "same" else (word, tuple(parts))


def closed_formula(dice, nodes, names=NAMES, words=WORDS):
    """A formula without free names: those that would be free are bound ahead of all else."""
    formula = random_formula(dice, nodes, names, words, 30)
    for name in dice.sample(names, len(names)):
        formula = (dice.choice(("each", "some")), name, formula)
    return formula


def all_formulas(nodes, names=("a", "b")):
    """All formulas of just so many nodes, with these names."""
    if nodes == 1:
        return [("letter", name) for name in names] + [YES, NO]
    found = []
    for part in all_formulas(nodes - 1, names):
        found.append(("not", part))
        found.extend([(word, name, part) for word in ("each", "some") for name in names])
    for parts in part_lists(nodes - 1, names):
        if len(parts) > 1:
            found.extend([("and", parts), ("or", parts)])
        if len(parts) == 2:
            found.append(("same", *parts))
    return found


def part_lists(nodes, names):
    """All tuples of formulas with just so many nodes together."""
    if nodes == 0:
        return [()]
    return [(one, *rest) for first in range(1, nodes + 1) for one in all_formulas(first, names)
            for rest in part_lists(nodes - first, names)]


def nested(formula, many, wrap):
    for _ in range(many):
        formula = wrap(formula)
    return formula


def wide(many, formula=A, word="and"):
    """A formula of this word with so many parts."""
    return (word, (formula,) * many)


def great_formulas(seed, many, names=NAMES, words=WORDS):
    dice = random.Random(seed)
    for _ in range(many):
        yield random_formula(dice, dice.randint(200, 400), names, words)
