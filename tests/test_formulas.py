import random
import unittest
from itertools import product

from eachsome.errors import Taken
from eachsome.formulas import called, formula_error, free_names
from tests.helpers import any_values, check_call, raised, returned
from tests.making_formulas import A, B, NAMES, NO, X, Y, YES, all_formulas, great_formulas, nested, random_formula, wide
from tests.plain_formulas import (
    depth_of, many_nodes, placed_nodes, plain_called, plain_formula_error, plain_free, put_at,
)

TURN = ("each", "x", ("some", "y", ("or", (("and", (X, Y)), ("not", X)))))
MIXED = ("and", (X, ("each", "x", ("same", X, A))))
FORMS = ((), ("letter",), ("letter", "a", 1), ("not",), ("not", A, A), ("and",), ("and", (A,)),
         ("and", [A, B]), ("and", (A, B), ()), ("or", (A,)), ("or", [A, B]), ("or",), ("or", A, B), ("same", A),
         ("same", (A, B)), ("same", A, A, A), ("each", "a"), ("each", A), ("each", "a", A, A), ("some", "a"),
         ("some", "a", A, A), ("yes",), ("no", ()), ("xor", (A, B)), ("AND", (A, B)), ["letter", "a"], ["and", ()],
         (("letter", "a"),), (None,), ([],), ({}, ()), (b"and", ()), "letter", "a", 7, None, True, {}, [],
         ("and", "ab"), ("or", ""), ("and", None), ("and", {}), ("not", None, None))
NO_NAMES = ("", "each", "some", "yes", "no", "abcdefghi", "1", "1a", "A", "aB", "a b", "a_", "_a", "a-b", "a\n", " a",
            "a ", None, 1, True, [], {}, (), ["a"], ("a",), ("letter", "a"), "x" * 20000, "!", "a.b")
RIGHT_NAMES = ("a", "z", "a0", "z9", "abcdefgh", "a1234567", "eachx", "some1", "yess", "not", "and", "or", "same", "letter")


class FormulaErrorTest(unittest.TestCase):
    def check(self, value, expected):
        self.assertEqual(repr(plain_formula_error(value)), repr(expected), value)
        check_call(self, formula_error, returned(expected), value=value)

    def test_formulas(self):
        for nodes in range(1, 5):
            for formula in all_formulas(nodes):
                self.assertIsNone(formula_error(formula))
        for formula in great_formulas(601, 40):
            self.check(formula, None)
        for formula in (A, YES, NO, TURN, MIXED, ("and", (A, A, A)), ("same", YES, YES)):
            self.check(formula, None)

    def test_any_values(self):
        for value in any_values():
            for made in (value, ("not", value), ("and", (A, value)), ("letter", value), ("each", value, A), ("or", value),
                         ("each", "x", value), ("same", A, value), (value, A)):
                self.assertTrue(plain_formula_error(made) or value in ("e", "s", "es", "ex"))
                check_call(self, formula_error, returned(plain_formula_error(made)), value=made)

    def test_form(self):
        for value in FORMS:
            self.check(value, ((), "form"))
            self.check(("not", value), ((0,), "form"))
            self.check(("or", (A, YES, value)), ((2,), "form"))
            self.check(("some", "b", ("same", A, value)), ((0, 1), "form"))
        # The parts of what is written like this are the two items of a letter.
        self.check(("and", A), ((0,), "form"))

    def test_name(self):
        for name in NO_NAMES:
            self.check(("letter", name), ((), "name"))
            self.check(("each", name, A), ((), "name"))
            self.check(("some", name, 7), ((), "name"))
            self.check(("not", ("or", (A, ("letter", name)))), ((0, 1), "name"))
        for name in RIGHT_NAMES:
            self.check(("letter", name), None)
            self.check(("each", name, A), None)
            self.check(("some", name, ("letter", name)), None)

    def test_the_first_node_in_order(self):
        wrong = ("letter", "1")
        for value, expected in (
            (("and", (wrong, 7)), ((0,), "name")), (("and", (7, wrong)), ((0,), "form")),
            (("and", (("not", 7), wrong)), ((0, 0), "form")), (("and", (("not", A), 7, wrong)), ((1,), "form")),
            (("same", ("and", (A, ("not", ("each", "no", 7)))), 7), ((0, 1, 0), "name")),
            (("each", "1", wrong), ((), "name")), (("each", "x", wrong), ((0,), "name")),
            (("or", (A, ("and", (A, 7)), ("each", "", A))), ((1, 1), "form")),
        ):
            self.check(value, expected)

    def test_deep(self):
        for wrap in (lambda part: ("not", part), lambda part: ("some", "a", part), lambda part: ("and", (part, A)),
                     lambda part: ("same", A, part)):
            self.check(nested(A, 39, wrap), None)
            for inner in (A, 7, ("letter", ""), YES):
                value = nested(inner, 40, wrap)
                self.assertEqual(formula_error(value)[1], "deep")
                self.check(value, plain_formula_error(value))
            self.assertEqual(formula_error(nested(7, 39, wrap))[1], "form")
            self.assertEqual(formula_error(nested(("letter", "no"), 39, wrap))[1], "name")
        # A wrong node that comes first is told, though others are too deep.
        self.check(("and", (7, nested(A, 40, lambda part: ("not", part)))), ((0,), "form"))
        self.check(("and", (nested(A, 40, lambda part: ("not", part)), 7)), ((0,) * 40, "deep"))

    def test_many(self):
        self.check(wide(399), None)
        self.check(wide(400), ((), "many"))
        self.check(("not", wide(398)), None)
        self.check(("not", wide(399)), ((), "many"))
        self.check(("not", ("or", (wide(399), 7))), ((0, 1), "form"))
        self.check(("same", wide(200), wide(197)), None)
        self.check(("same", wide(200), wide(198)), ((), "many"))
        self.check(("or", (wide(3000), wide(3000), ("letter", ""))), ((2,), "name"))
        deep = nested(A, 39, lambda part: ("not", part))
        self.check(("or", (wide(500), ("not", deep))), ((1,) + (0,) * 39, "deep"))

    def test_changed_formulas(self):
        dice = random.Random(607)
        seen = {}
        for _ in range(400):
            formula = random_formula(dice, dice.randint(1, 20))
            way = dice.choice(placed_nodes(formula))[0]
            node = dice.choice((7, None, ("letter", "1"), ("and", (A,)), [A], ("each", "yes", A), ("not",), ("xor", A, B)))
            value = put_at(formula, way, node)
            if dice.random() < 0.5:
                value = put_at(value, (), ("same", value, 7))
            self.check(value, plain_formula_error(value))
            seen[formula_error(value)[1]] = True
        self.assertEqual(set(seen), {"form", "name"})


class FreeNamesTest(unittest.TestCase):
    def test_small_formulas(self):
        for nodes in range(1, 5):
            for formula in all_formulas(nodes):
                self.assertEqual(free_names(formula), plain_free(formula))

    def test_great_formulas(self):
        for formula in great_formulas(613, 60, NAMES + ("a0", "z")):
            self.assertEqual(free_names(formula), plain_free(formula))

    def test_calls(self):
        for formula, expected in (
            (MIXED, ("a", "x")), (TURN, ()), (A, ("a",)), (YES, ()), (("each", "a", A), ()), (("some", "b", A), ("a",)),
            (("and", (("each", "a", A), A)), ("a",)), (("same", A, ("some", "a", ("each", "a", A))), ("a",)),
            (("each", "a", ("and", (("some", "a", A), A, B))), ("b",)),
            (("or", (Y, B, X, A, B)), ("a", "b", "x", "y")),
            (("or", tuple([("letter", name) for name in ("b", "a1", "a", "a0", "aa", "z", "a")])),
             ("a", "a0", "a1", "aa", "b", "z")),
        ):
            check_call(self, free_names, returned(expected), formula=formula)


class CalledTest(unittest.TestCase):
    def check(self, formula, names):
        expected = plain_called(formula, names)
        if isinstance(expected, str):
            check_call(self, called, raised(Taken(expected)), formula=formula, names=names)
        else:
            check_call(self, called, returned(expected), formula=formula, names=names)
            self.assertIsNone(formula_error(called(formula, names)))
        return expected

    def test_small_formulas(self):
        seen = {"taken": 0, "same": 0, "other": 0}
        for nodes in range(1, 5):
            for formula in all_formulas(nodes):
                for news in product((None, "a", "b", "c"), repeat=2):
                    names = {old: new for old, new in zip("ab", news) if new}
                    expected = plain_called(formula, names)
                    try:
                        found = called(formula, names)
                    except Taken as error:
                        found = error.given
                    self.assertEqual(found, expected, (formula, names))
                    seen["taken" if isinstance(expected, str) else "same" if expected == formula else "other"] += 1
        self.assertGreater(min(seen.values()), 500)

    def test_great_formulas(self):
        dice = random.Random(617)
        seen = {}
        for formula in great_formulas(619, 100):
            olds = dice.sample(NAMES + ("c",), dice.randint(0, 4))
            names = {old: dice.choice(NAMES + ("c", "d", "a1")) for old in olds}
            seen[type(self.check(formula, names))] = True
        self.assertEqual(set(seen), {str, tuple})

    def test_at_the_same_time(self):
        both = ("and", (A, B, ("each", "x", ("same", A, ("not", B)))))
        self.assertEqual(called(both, {"a": "b", "b": "a"}),
                         ("and", (B, A, ("each", "x", ("same", B, ("not", A))))))
        self.assertEqual(called(both, {"a": "b", "b": "c"})[1][:2], (B, ("letter", "c")))
        self.assertEqual(called(both, {"a": "y", "b": "y"})[1][:2], (Y, Y))

    def test_bound_letters_stay(self):
        inner = ("each", "a", ("and", (A, ("some", "b", ("same", A, B)))))
        self.assertEqual(called(inner, {"a": "x", "b": "y", "x": "a"}), inner)
        self.assertEqual(called(("or", (A, inner)), {"a": "x"}), ("or", (X, inner)))
        twice = ("each", "a", ("or", (("each", "a", A), A, B)))
        self.assertEqual(called(twice, {"a": "b", "b": "y"}), ("each", "a", ("or", (("each", "a", A), A, Y))))

    def test_taken(self):
        inner = ("each", "x", ("some", "y", ("and", (A, B))))
        for names, given in (({"a": "x"}, "x"), ({"a": "y"}, "y"), ({"a": "y", "b": "x"}, "x"), ({"b": "y", "a": "c"}, "y"),
                             ({"a": "x", "x": "y"}, "x"), ({"b": "x", "a": "x"}, "x")):
            self.assertEqual(self.check(inner, names), given)
        for names in ({}, {"x": "y", "y": "x"}, {"c": "x"}, {"a": "b"}, {"a": "a", "b": "b"}, {"a": "b", "b": "a"}):
            self.check(inner, names)
        # What stands in an "each" of the new name, but is bound itself, is not exchanged.
        self.check(("each", "b", ("each", "a", A)), {"a": "b"})
        self.check(("and", (("each", "b", ("each", "a", A)), A)), {"a": "b"})
        self.assertEqual(self.check(("each", "b", ("or", (("each", "a", A), A))), {"a": "b"}), "b")
        self.assertEqual(self.check(("or", (("each", "b", B), A)), {"a": "b"})[1][1], B)
        self.assertEqual(self.check(("each", "y", ("or", (("each", "x", A), ("each", "a1", A)))), {"a": "a1"}), "a1")

    def test_calls(self):
        for formula, names, expected in (
            (MIXED, {"x": "y", "b": "c"}, ("and", (Y, ("each", "x", ("same", X, A))))),
            (MIXED, {"x": "a", "a": "y"}, ("and", (A, ("each", "x", ("same", X, Y))))),
            (A, {}, A), (A, {"a": "b"}, B), (YES, {"a": "b"}, YES), (TURN, {"x": "a", "y": "b"}, TURN),
        ):
            check_call(self, called, returned(expected), formula=formula, names=names)
        check_call(self, called, raised(Taken("x")), formula=MIXED, names={"a": "x"})

    def test_depth_and_nodes_stay(self):
        for formula in great_formulas(631, 20):
            made = called(formula, {name: name + "9" for name in NAMES})
            self.assertEqual((many_nodes(made), depth_of(made)), (many_nodes(formula), depth_of(formula)))
            self.assertEqual(free_names(made), tuple([name + "9" for name in free_names(formula)]))


if __name__ == "__main__":
    unittest.main()
