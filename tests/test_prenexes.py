import random
import unittest

from eachsome.errors import TooMany, Unfit
from eachsome.formulas import formula_error, free_names
from eachsome.prenexes import lowered, prenex
from eachsome.truths import holds
from tests.helpers import check_call, raised, returned
from tests.making_formulas import (
    A, B, NAMES, NO, PLAIN_WORDS, X, Y, YES, all_formulas, closed_formula, great_formulas, nested, random_formula, wide,
)
from tests.plain_formulas import (
    all_worlds, depth_of, has_quantifier, many_nodes, placed_nodes, plain_free, plain_holds, plain_lowered, plain_prenex,
)

TURN = ("each", "x", ("some", "y", ("or", (("and", (X, Y)), ("not", X)))))
V, W = ("letter", "v1"), ("letter", "v2")


def put_ahead(quantifiers, matrix):
    for word, name in reversed(quantifiers):
        matrix = (word, name, matrix)
    return matrix


def quantified(many, matrix=X):
    """The matrix with so many "each" and "some" ahead; letters x are of the innermost one."""
    return nested(matrix, many, lambda part: ("each", "x", part))


class PrenexTest(unittest.TestCase):
    def check(self, formula):
        quantifiers, matrix = plain_prenex(formula)
        nodes, deep = many_nodes(matrix), depth_of(matrix)
        for many, limit in ((len(quantifiers), 60), (nodes, 400), (deep, 40)):
            if many > limit:
                check_call(self, prenex, raised(TooMany(limit)), formula=formula)
                return limit
        check_call(self, prenex, returned((quantifiers, matrix)), formula=formula)
        self.assertEqual([name for _, name in quantifiers], [f"v{at + 1}" for at in range(len(quantifiers))])
        self.assertIsNone(formula_error(matrix))
        self.assertFalse(has_quantifier(matrix))
        return None

    def check_truth(self, formula):
        quantifiers, matrix = prenex(formula)
        if len(quantifiers) <= 12:
            ahead = put_ahead(quantifiers, matrix)
            self.assertEqual(holds(ahead, {}), holds(formula, {}), formula)
            if len(quantifiers) <= 6:
                self.assertEqual(plain_holds(ahead, {}), plain_holds(formula, {}))
            if formula_error(ahead) is None:
                self.assertEqual(prenex(ahead), (quantifiers, matrix))

    def test_all_small_formulas(self):
        seen = 0
        for nodes in range(1, 5):
            for formula in all_formulas(nodes):
                if plain_free(formula):
                    with self.assertRaises(Unfit):
                        prenex(formula)
                else:
                    self.assertEqual(prenex(formula), plain_prenex(formula))
                    self.check_truth(formula)
                    seen += 1
        self.assertGreater(seen, 300)

    def test_random_formulas(self):
        dice = random.Random(719)
        seen = {}
        for _ in range(700):
            most, words = dice.choice(((26, ()), (26, ("each", "some")), (44, ("same",) * 6 + ("each",) * 4)))
            formula = closed_formula(dice, dice.randint(1, most), NAMES[:dice.randint(1, 4)], PLAIN_WORDS + words)
            self.assertEqual(free_names(formula), ())
            limit = self.check(formula)
            seen[limit] = seen.get(limit, 0) + 1
            if limit is None:
                self.check_truth(formula)
        self.assertLessEqual({None, 60, 400}, set(seen))
        self.assertGreater(seen[None], 400)

    def test_names_bound_within_one_another(self):
        for formula, expected in (
            (("each", "x", ("and", (("some", "x", X), X))), ((("each", "v1"), ("some", "v2")), ("and", (W, V)))),
            (("each", "x", ("and", (X, ("some", "x", X)))), ((("each", "v1"), ("some", "v2")), ("and", (V, W)))),
            (("and", (("each", "x", X), ("each", "x", X))), ((("each", "v1"), ("each", "v2")), ("and", (V, W)))),
            (("each", "v2", ("some", "v1", ("same", W, V))), ((("each", "v1"), ("some", "v2")), ("same", V, W))),
            (("each", "x", ("some", "x", ("each", "x", X))), ((("each", "v1"), ("some", "v2"), ("each", "v3")), ("letter", "v3"))),
            (("some", "x", YES), ((("some", "v1"),), YES)), (NO, ((), NO)), (("not", ("same", YES, NO)), ((), ("not", ("same", YES, NO)))),
        ):
            check_call(self, prenex, returned(expected), formula=formula)
            self.assertEqual(plain_prenex(formula), expected)

    def test_sides(self):
        for formula, words in (
            (("not", ("each", "x", X)), ["some"]), (("not", ("not", ("each", "x", X))), ["each"]),
            (("not", ("each", "x", ("not", ("each", "y", ("same", X, Y))))), ["some", "each"]),
            (("not", ("and", (("each", "x", X), ("not", ("some", "x", X)), ("some", "y", Y)))), ["some", "some", "each"]),
            (("same", ("each", "x", X), ("some", "x", X)), ["each", "some", "some", "each"]),
            (("not", ("same", ("each", "x", X), YES)), ["some", "each"]),
            (("each", "x", ("same", X, ("some", "y", ("same", X, Y)))), ["each", "some", "each"]),
            (("same", ("not", ("each", "x", X)), NO), ["some", "each"]),
        ):
            self.assertEqual([word for word, _ in prenex(formula)[0]], words)
            self.assertIsNone(self.check(formula))
            self.check_truth(formula)

    def test_same_with_and_without_quantifiers(self):
        inner = ("same", X, ("same", YES, X))
        self.assertEqual(prenex(("each", "x", inner))[1], ("same", V, ("same", YES, V)))
        doubled = ("same", ("each", "x", inner), inner)
        self.assertEqual(prenex(("some", "x", doubled)), plain_prenex(("some", "x", doubled)))
        self.assertEqual(prenex(("some", "x", doubled))[1][0], "or")
        twice = ("same", ("same", ("some", "x", X), YES), NO)
        self.assertEqual(len(prenex(twice)[0]), 4)
        self.assertIsNone(self.check(twice))
        self.check_truth(twice)

    def test_unfit(self):
        for formula in (A, ("and", (A, TURN)), ("each", "x", ("and", (X, Y))), ("or", (("each", "x", X), X)),
                        ("and", tuple([quantified(30)] * 3 + [A])), ("same", wide(390), quantified(1, YES)),
                        nested(("same", A, ("each", "x", X)), 37, lambda part: ("same", part, YES))):
            check_call(self, prenex, raised(Unfit()), formula=formula)

    def test_bounds(self):
        not_deep = lambda many: nested(X, many, lambda part: ("not", part))
        both = lambda parts: ("and", tuple(parts))
        for formula, limit in (
            (both([quantified(30), quantified(30)]), None), (both([quantified(30), quantified(31)]), 60),
            (both([quantified(16), ("same", quantified(20), quantified(2))]), None),
            (both([quantified(17), ("same", quantified(20), quantified(2))]), 60),
            (("same", quantified(30), YES), None), (("same", quantified(30), quantified(1)), 60),
            (("each", "x", wide(398, X)), None), (("each", "x", ("same", wide(198, X), wide(198, X))), None), (wide(399, YES), None),
            (("same", ("each", "x", wide(195, X)), YES), None), (("same", ("each", "x", wide(196, X)), YES), 400),
            (("not", ("same", ("each", "x", wide(195, X)), YES)), None), (("not", ("same", YES, ("some", "x", wide(196, X)))), 400),
            (both([quantified(31), quantified(30), ("same", ("each", "x", wide(250, X)), YES)]), 60),
            (("each", "x", not_deep(38)), None), (("same", ("each", "x", not_deep(36)), YES), None),
            (("same", ("each", "x", not_deep(37)), YES), 40), (("same", YES, ("each", "x", not_deep(37))), 40),
            (("not", ("same", ("each", "x", not_deep(35)), YES)), None), (("not", ("same", ("each", "x", not_deep(36)), YES)), 40),
            (("same", both([("each", "x", not_deep(36)), wide(200, YES)]), YES), 400),
            (("same", ("same", ("each", "x", not_deep(33)), YES), YES), None),
            (("same", ("same", ("each", "x", not_deep(34)), YES), YES), 40),
        ):
            self.assertIsNone(formula_error(formula))
            self.assertEqual(self.check(formula), limit)

    def test_at_once_where_it_could_not_be_made(self):
        for inner, limit in ((("each", "x", X), 60), (("some", "x", YES), 60)):
            formula = nested(inner, 38, lambda part: ("same", part, YES))
            self.assertIsNone(formula_error(formula))
            check_call(self, prenex, raised(TooMany(limit)), formula=formula)
            check_call(self, prenex, raised(TooMany(limit)), formula=("not", formula))
            check_call(self, prenex, raised(TooMany(limit)), formula=nested(inner, 38, lambda part: ("same", NO, part)))
        four = nested(("each", "x", X), 5, lambda part: ("same", part, wide(10, YES)))
        self.assertEqual(self.check(four), 400)

    def test_depth_is_told_after_nodes(self):
        deepest = nested(("each", "x", X), 5, lambda part: ("same", ("not", part), YES))
        self.assertEqual(self.check(deepest), None)
        for many in range(6):
            formula = nested(("each", "x", nested(X, 20, lambda part: ("not", part))), many, lambda part: ("same", ("not", part), YES))
            self.check(formula)

    def test_calls(self):
        for formula, expected in (
            (TURN, ((("each", "v1"), ("some", "v2")), ("or", (("and", (V, W)), ("not", V))))),
            (("not", ("and", (("each", "x", X), ("some", "x", ("not", X))))),
             ((("some", "v1"), ("each", "v2")), ("not", ("and", (V, ("not", W)))))),
            (("same", ("some", "x", X), YES),
             ((("some", "v1"), ("each", "v2")), ("or", (("and", (V, YES)), ("and", (("not", W), ("not", YES))))))),
            (YES, ((), YES)), (NO, ((), NO)), (("or", ()), ((), NO)),
        ):
            check_call(self, prenex, returned(expected), formula=formula)
        check_call(self, prenex, raised(Unfit()), formula=("and", (A, TURN)))


class LoweredTest(unittest.TestCase):
    def check(self, formula):
        expected = plain_lowered(formula)
        nodes, deep = many_nodes(expected), depth_of(expected)
        for many, limit in ((nodes, 400), (deep, 40)):
            if many > limit:
                check_call(self, lowered, raised(TooMany(limit)), formula=formula)
                return limit
        check_call(self, lowered, returned(expected), formula=formula)
        for _, node, _ in placed_nodes(expected):
            self.assertTrue(node[0] in ("letter", "and", "or") or (node[0] == "not" and node[1][0] == "letter"))
        self.assertEqual(lowered(expected), expected)
        return None

    def check_truth(self, formula):
        for world in all_worlds(plain_free(formula)):
            self.assertEqual(plain_holds(lowered(formula), world), plain_holds(formula, world))

    def test_all_small_formulas(self):
        for nodes in range(1, 5):
            for formula in all_formulas(nodes):
                if has_quantifier(formula):
                    with self.assertRaises(Unfit):
                        lowered(formula)
                else:
                    self.assertEqual(lowered(formula), plain_lowered(formula))
                    self.check_truth(formula)

    def test_random_formulas(self):
        dice = random.Random(727)
        seen = {}
        for _ in range(600):
            words = dice.choice((PLAIN_WORDS, ("not", "same"), ("not", "and", "or"), ("not", "and", "same")))
            formula = random_formula(dice, dice.randint(1, 30), NAMES, words)
            limit = self.check(formula)
            seen[limit] = seen.get(limit, 0) + 1
            if limit is None:
                self.check_truth(formula)
        self.assertLessEqual({None, 400}, set(seen))
        self.assertGreater(seen[None], 300)

    def test_great_formulas(self):
        seen = {}
        for formula in great_formulas(733, 40, words=("not", "and", "or")):
            seen[self.check(formula)] = True
            if formula_error(("not", formula)) is None:
                seen[self.check(("not", formula))] = True
        for formula in great_formulas(739, 20, names=("a", "b"), words=("and", "and", "or", "not")):
            seen[self.check(("not", ("or", (formula[1] if formula[0] == "not" else formula, A))))] = True
        self.assertIn(None, seen)

    def test_unfit(self):
        for formula in (TURN, ("each", "x", YES), ("and", (A, ("some", "x", A))), ("not", ("same", A, ("each", "a", A))),
                        ("not", TURN), nested(("each", "a", A), 38, lambda part: ("same", part, A))):
            check_call(self, lowered, raised(Unfit()), formula=formula)

    def test_bounds(self):
        turns = lambda part, many: nested(part, many, lambda inner: ("not", inner))
        for formula, limit in (
            (wide(399), None), (("not", wide(199)), None), (("not", wide(200)), 400), (("not", wide(398, YES)), None),
            (("not", ("or", (("not", wide(198)), A, A, A, A))), None), (("and", (("not", wide(197)), A, A, A, A)), None),
            (("and", (("not", wide(197)), A, A, A, A, A)), 400), (("same", wide(65), wide(66)), None), (("same", wide(66), wide(65)), None),
            (("same", wide(66), wide(66)), 400), (("not", ("same", wide(65), wide(66))), None),
            (("not", ("same", wide(66), wide(66))), 400), (turns(A, 39), None), (turns(A, 38), None),
            (nested(A, 38, lambda part: ("and", (part, YES))), None), (nested(A, 39, lambda part: ("and", (part, YES))), None),
            (nested(("not", A), 38, lambda part: ("or", (part, YES))), None),
            (("not", nested(A, 38, lambda part: ("or", (part, YES)))), None),
            (("not", nested(A, 37, lambda part: ("or", (part, YES)))), None),
            (("same", A, nested(YES, 37, lambda part: ("and", (part, YES)))), None),
            (("same", A, nested(YES, 38, lambda part: ("and", (part, YES)))), 40),
            (("same", A, nested(A, 36, lambda part: ("and", (part, YES)))), None),
            (("same", A, nested(A, 37, lambda part: ("and", (part, YES)))), 40),
            (("not", ("same", nested(A, 37, lambda part: ("or", (part, YES))), NO)), 40),
            (("same", wide(90), nested(A, 37, lambda part: ("and", (part, YES)))), 400),
        ):
            self.assertIsNone(formula_error(formula))
            self.assertEqual(self.check(formula), limit, formula)

    def test_at_once_where_it_could_not_be_made(self):
        for wrap in (lambda part: ("same", part, A), lambda part: ("same", A, part), lambda part: ("same", NO, part)):
            formula = nested(A, 39, wrap)
            self.assertIsNone(formula_error(formula))
            check_call(self, lowered, raised(TooMany(400)), formula=formula)
        check_call(self, lowered, raised(TooMany(400)), formula=("not", nested(A, 38, lambda part: ("same", part, B))))
        evens = nested(A, 19, lambda part: ("not", ("same", part, B)))
        check_call(self, lowered, raised(TooMany(400)), formula=evens)

    def test_calls(self):
        for formula, expected in (
            (("not", ("and", (A, ("not", B)))), ("or", (("not", A), B))),
            (("not", ("same", A, B)), ("and", (("or", (A, B)), ("or", (("not", A), ("not", B)))))),
            (("same", A, B), ("and", (("or", (("not", A), B)), ("or", (A, ("not", B)))))),
            (A, A), (("not", A), ("not", A)), (("not", ("not", A)), A), (YES, YES), (("not", YES), NO), (("not", NO), YES),
            (("not", ("or", (A, B, YES))), ("and", (("not", A), ("not", B), NO))),
            (("same", YES, A), ("and", (("or", (NO, A)), ("or", (YES, ("not", A)))))),
        ):
            check_call(self, lowered, returned(expected), formula=formula)
            self.assertEqual(plain_lowered(formula), expected)
        check_call(self, lowered, raised(Unfit()), formula=TURN)


if __name__ == "__main__":
    unittest.main()
