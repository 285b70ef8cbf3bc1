"""Formulas: trees of "letter", "not", "and", "or", "same", "each" and "some"."""

from eachsome.bounds import MAX_NEST, MAX_NODES
from eachsome.errors import Taken, TooMany

FIRST_SIGNS = "abcdefghijklmnopqrstuvwxyz"
SIGNS = "abcdefghijklmnopqrstuvwxyz0123456789"
LONGEST_NAME = 8
# Texts say something else by these words.
NO_NAMES = ("each", "some", "yes", "no")

# How many items a node has, by its word.
ITEMS = {"letter": 2, "not": 2, "and": 2, "or": 2, "same": 3, "each": 3, "some": 3}
QUANTIFIERS = ("each", "some")
JOINING = ("and", "or")
NAMING = ("letter", "each", "some")


def is_name(value):
    """Tell whether value is a name."""
    if not isinstance(value, str) or not 1 <= len(value) <= LONGEST_NAME or value in NO_NAMES:
        return False
    return value[0] in FIRST_SIGNS and all([sign in SIGNS for sign in value])


def has_node_form(value):
    """Tell whether value has the form of a node, whatever its name and its parts are."""
    if not isinstance(value, tuple) or not value or not isinstance(value[0], str):
        return False
    if len(value) != ITEMS.get(value[0]):
        return False
    return value[0] not in JOINING or (isinstance(value[1], tuple) and len(value[1]) != 1)


def parts_of(formula):
    """Return the tuple of the parts of the formula."""
    word = formula[0]
    if word in JOINING:
        return formula[1]
    return formula[2:] if word in NAMING else formula[1:]


def with_parts(formula, parts):
    """Return the formula with these in the places of its parts."""
    word = formula[0]
    if word in JOINING:
        return (word, tuple(parts))
    return (word, formula[1], *parts) if word in NAMING else (word, *parts)


def node_fault(value, deep):
    """Return the word that tells what is wrong with value as a node that is so deep, None if nothing is."""
    if deep > MAX_NEST:
        return "deep"
    if not has_node_form(value):
        return "form"
    return "name" if value[0] in NAMING and not is_name(value[1]) else None


def first_fault(value, way):
    """Return way and word of the first node in value, to which this way leads, that is not right; None if all are."""
    word = node_fault(value, len(way) + 1)
    if word is not None:
        return (way, word)
    for place, part in enumerate(parts_of(value)):
        fault = first_fault(part, way + (place,))
        if fault is not None:
            return fault
    return None


def joined_size(sizes, nodes, deep):
    """Return the size of what has parts of these sizes, with so many nodes around them, so many above each.

    A size is a pair: how many nodes there are, and how deep the deepest one is.
    """
    return (nodes + sum([size[0] for size in sizes]), deep + max([0] + [size[1] for size in sizes]))


def size_of(formula):
    """Return the size of the formula."""
    return joined_size([size_of(part) for part in parts_of(formula)], 1, 1)


def check_size(size):
    """Raise TooMany if a formula of this size is too great."""
    if size[0] > MAX_NODES:
        raise TooMany(MAX_NODES)
    if size[1] > MAX_NEST:
        raise TooMany(MAX_NEST)


def formula_error(value):
    """Return None for a formula, otherwise what is wrong with value."""
    fault = first_fault(value, ())
    if fault is None and size_of(value)[0] > MAX_NODES:
        return ((), "many")
    return fault


def is_plain(formula):
    """Tell whether the formula has no "each" and no "some"."""
    return formula[0] not in QUANTIFIERS and all([is_plain(part) for part in parts_of(formula)])


def free_names(formula):
    """Return the ascending tuple of the names of free letters."""
    if formula[0] == "letter":
        return (formula[1],)
    bound = formula[1] if formula[0] in QUANTIFIERS else None
    return tuple(sorted({name for part in parts_of(formula) for name in free_names(part) if name != bound}))


def becoming_bound(formula, names, bound):
    """Return the list of the new names of free letters that stand in an "each" or "some" of this new name.

    names tells the new names of free letters, bound those of each "each" and "some" that the formula stands in.
    """
    if formula[0] == "letter":
        given = names.get(formula[1])
        return [given] if given in bound else []
    if formula[0] in QUANTIFIERS:
        names = without_name(names, formula[1])
        bound = bound + (formula[1],)
    return [name for part in parts_of(formula) for name in becoming_bound(part, names, bound)]


def without_name(names, name):
    """Return the dict names without this key."""
    return {old: names[old] for old in names if old != name}


def called_freely(formula, names):
    """Return the formula with its free letters called by their new names; none of these is bound there."""
    if formula[0] == "letter":
        return ("letter", names.get(formula[1], formula[1]))
    if formula[0] in QUANTIFIERS:
        names = without_name(names, formula[1])
    return with_parts(formula, [called_freely(part, names) for part in parts_of(formula)])


def called(formula, names):
    """Return the formula with its free letters called by their new names, all at the same time."""
    taken = becoming_bound(formula, names, ())
    if taken:
        raise Taken(min(taken))
    return called_freely(formula, names)
