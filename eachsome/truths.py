"""What formulas mean: in which worlds they hold.

Many worlds are gone through at once: they are numbered, and a number with a bit for each of them tells in which of
them a name is True, or a formula holds.
"""

from eachsome.formulas import QUANTIFIERS, free_names, parts_of


def with_name(masks, size, name):
    """Return what masks tells, of size worlds, of twice as many: name is True in the first half, False in the other."""
    wider = {other: mask | (mask << size) for other, mask in masks.items()}
    wider[name] = (1 << size) - 1
    return wider


def worlds_of(names):
    """Return the masks of all worlds of these names, and how many there are.

    The first name is True in the first half of them, the second one in the first half of each half, and so on.
    """
    masks, size = {}, 1
    for name in reversed(names):
        masks, size = with_name(masks, size, name), 2 * size
    return (masks, size)


def in_all(found, size):
    """Return the worlds, of size ones, that are in each of those that were found."""
    worlds = (1 << size) - 1
    for others in found:
        worlds = worlds & others
    return worlds


def in_some(found):
    """Return the worlds that are in one at least of those that were found."""
    worlds = 0
    for others in found:
        worlds = worlds | others
    return worlds


def where_quantified(formula, masks, size):
    """Return in which of size worlds a formula with "each" or "some" ahead holds."""
    inner = where_holding(formula[2], with_name(masks, size, formula[1]), 2 * size)
    halves = (inner & ((1 << size) - 1), inner >> size)
    return in_all(halves, size) if formula[0] == "each" else in_some(halves)


def where_holding(formula, masks, size):
    """Return in which of size worlds the formula holds, masks telling the same of each name."""
    word = formula[0]
    if word == "letter":
        return masks[formula[1]]
    if word in QUANTIFIERS:
        return where_quantified(formula, masks, size)
    found = [where_holding(part, masks, size) for part in parts_of(formula)]
    if word == "and":
        return in_all(found, size)
    if word == "or":
        return in_some(found)
    # What is left holds in a world just if an even number of its parts does: none for "not", none or both for "same".
    worlds = (1 << size) - 1
    for others in found:
        worlds = worlds ^ others
    return worlds


def holds(formula, world):
    """Tell whether the formula holds in the world."""
    masks = {name: 1 if world[name] else 0 for name in free_names(formula)}
    return where_holding(formula, masks, 1) == 1


def parting_world(one, other):
    """Return the first world in which just one of both holds, as the tuple of its pairs, None if there is none."""
    names = sorted(set(free_names(one) + free_names(other)))
    masks, size = worlds_of(names)
    parting = where_holding(one, masks, size) ^ where_holding(other, masks, size)
    if parting == 0:
        return None
    first = parting & -parting
    return tuple([(name, masks[name] & first != 0) for name in names])
