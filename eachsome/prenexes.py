"""Formulas brought to plain forms: "each" and "some" ahead of all else, "not" ahead of letters alone."""

from eachsome.bounds import MAX_LETTERS
from eachsome.errors import TooMany, Unfit
from eachsome.formulas import QUANTIFIERS, check_size, free_names, is_plain, joined_size, parts_of, with_parts

CONTRARY = {"each": "some", "some": "each", "and": "or", "or": "and"}


def split_same(formula):
    """Return what is gone through in the place of a "same" with an "each" or "some" in it."""
    _, one, other = formula
    return ("or", (("and", (one, other)), ("and", (("not", one), ("not", other)))))


def many_quantifiers(formula):
    """Return how many quantifiers prenex makes of the formula."""
    many = sum([many_quantifiers(part) for part in parts_of(formula)])
    if formula[0] in QUANTIFIERS:
        return many + 1
    return 2 * many if formula[0] == "same" else many


def matrix_size(formula):
    """Return the size of the matrix that prenex makes of the formula."""
    sizes = [matrix_size(part) for part in parts_of(formula)]
    if formula[0] in QUANTIFIERS:
        return sizes[0]
    if formula[0] == "same" and not is_plain(formula):
        # As split_same makes it: both parts twice, with five nodes around, of which three lead to the deepest part.
        return joined_size(sizes + sizes, 5, 3)
    return joined_size(sizes, 1, 1)


def check_prenex(formula):
    """Raise what prenex raises of the formula."""
    if free_names(formula):
        raise Unfit()
    if many_quantifiers(formula) > MAX_LETTERS:
        raise TooMany(MAX_LETTERS)
    check_size(matrix_size(formula))


def matrix_of(formula, side, names, quantifiers):
    """Return what the formula becomes on this side, names telling what bound names are called.

    Its quantifiers are put behind those that there are.
    """
    word = formula[0]
    if word == "letter":
        return ("letter", names[formula[1]])
    if word in QUANTIFIERS:
        fresh = f"v{len(quantifiers) + 1}"
        quantifiers.append((word if side == "yes" else CONTRARY[word], fresh))
        return matrix_of(formula[2], side, {**names, formula[1]: fresh}, quantifiers)
    if word == "same" and not is_plain(formula):
        return matrix_of(split_same(formula), side, names, quantifiers)
    if word == "not":
        side = "no" if side == "yes" else "yes"
    return with_parts(formula, [matrix_of(part, side, names, quantifiers) for part in parts_of(formula)])


def prenex(formula):
    """Return the quantifiers of the formula, fresh names for all of them, and the matrix behind them."""
    check_prenex(formula)
    quantifiers = []
    matrix = matrix_of(formula, "yes", {}, quantifiers)
    return (tuple(quantifiers), matrix)


def lowered_sizes(formula):
    """Return a dict from each side to the size of what the formula becomes there."""
    if formula[0] == "letter":
        return {"yes": (1, 1), "no": (2, 2)}
    found = [lowered_sizes(part) for part in parts_of(formula)]
    if formula[0] == "not":
        return {"yes": found[0]["no"], "no": found[0]["yes"]}
    if formula[0] == "same":
        both = joined_size([sizes[side] for sizes in found for side in ("yes", "no")], 3, 2)
        return {"yes": both, "no": both}
    return {side: joined_size([sizes[side] for sizes in found], 1, 1) for side in ("yes", "no")}


def lowered_same(formula, side):
    """Return what a "same" becomes on this side."""
    _, one, other = formula
    first, second = lowered_on(one, "no"), lowered_on(one, "yes")
    if side == "no":
        first, second = second, first
    return ("and", (("or", (first, lowered_on(other, "yes"))), ("or", (second, lowered_on(other, "no")))))


def lowered_on(formula, side):
    """Return what the formula becomes on this side."""
    word = formula[0]
    if word == "letter":
        return formula if side == "yes" else ("not", formula)
    if word == "not":
        return lowered_on(formula[1], "no" if side == "yes" else "yes")
    if word == "same":
        return lowered_same(formula, side)
    parts = tuple([lowered_on(part, side) for part in formula[1]])
    return (word if side == "yes" else CONTRARY[word], parts)


def lowered(formula):
    """Return a plain formula that says the same without "same", and with "not" ahead of letters alone."""
    if not is_plain(formula):
        raise Unfit()
    check_size(lowered_sizes(formula)["yes"])
    return lowered_on(formula, "yes")
