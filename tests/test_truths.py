import random
import unittest

from eachsome.formulas import called, free_names
from eachsome.truths import holds, parting_world
from tests.helpers import check_call, returned
from tests.making_formulas import A, B, NAMES, NO, X, Y, YES, all_formulas, great_formulas, nested, random_formula
from tests.plain_formulas import all_worlds, plain_free, plain_holds, plain_parting

TURN = ("each", "x", ("some", "y", ("or", (("and", (X, Y)), ("not", X)))))


def most_within(formula):
    """How many "each" and "some" stand within one another at most."""
    inner = max([most_within(part) for part in formula[1:] if isinstance(part, tuple) and part and part[0] in (
        "letter", "not", "and", "or", "same", "each", "some")] + [0])
    if formula[0] in ("and", "or"):
        inner = max([most_within(part) for part in formula[1]] + [0])
    return inner + (formula[0] in ("each", "some"))


class HoldsTest(unittest.TestCase):
    def check(self, formula, world):
        expected = plain_holds(formula, world)
        found = holds(formula, world)
        self.assertIs(found, expected, (formula, world))
        return found

    def test_all_small_formulas(self):
        seen = {True: 0, False: 0}
        for nodes in range(1, 5):
            for formula in all_formulas(nodes):
                for world in all_worlds(plain_free(formula)):
                    seen[self.check(formula, world)] += 1
        self.assertGreater(min(seen.values()), 1000)

    def test_random_formulas(self):
        dice = random.Random(641)
        seen = {True: 0, False: 0}
        for _ in range(1500):
            formula = random_formula(dice, dice.randint(3, 40))
            if most_within(formula) <= 7:
                world = {name: dice.random() < 0.5 for name in NAMES}
                seen[self.check(formula, world)] += 1
        self.assertGreater(min(seen.values()), 300)

    def test_names_bound_twice(self):
        dice = random.Random(643)
        for _ in range(400):
            inner = random_formula(dice, dice.randint(3, 12), ("a", "b"))
            for name in dice.choices(("a", "b"), k=4):
                inner = (dice.choice(("each", "some")), name, ("or", (inner, dice.choice((A, B, NO)))))
            if most_within(inner) <= 8:
                for world in all_worlds(("a", "b")):
                    self.check(inner, world)
        for formula, expected in ((("each", "a", ("some", "a", A)), True), (("some", "a", ("each", "a", A)), False),
                                  (("each", "a", ("and", (A, ("some", "a", ("not", A))))), False),
                                  (("some", "a", ("and", (A, ("some", "a", ("not", A))))), True),
                                  (("some", "a", ("same", A, ("each", "a", A))), True)):
            check_call(self, holds, returned(expected), formula=formula, world={})
            check_call(self, holds, returned(expected), formula=formula, world={"a": True})

    def test_worlds_with_more_names(self):
        formula = ("some", "x", ("same", X, A))
        for world in all_worlds(("a", "x", "y")):
            check_call(self, holds, returned(True), formula=formula, world=world)
        many = {f"n{number}": number % 3 == 0 for number in range(3000)}
        check_call(self, holds, returned(True), formula=TURN, world=many)
        for formula in great_formulas(647, 10, words=("not", "and", "or", "same")):
            world = {name: name in "ax" for name in NAMES}
            self.assertEqual(holds(formula, world), holds(formula, {**many, **world}))

    def test_twelve_within_one_another(self):
        names = [f"n{number}" for number in range(12)]
        letters = [("letter", name) for name in names]
        dice = random.Random(653)
        for _ in range(12):
            matrix = random_formula(dice, 60, tuple(names), ("not", "and", "or", "same"))
            for name in names:
                matrix = (dice.choice(("each", "some")), name, matrix)
            self.check(matrix, {})
        # Each second name can be set as the one ahead of it, but not the other way round.
        pairs = ("and", tuple([("same", letters[at], letters[at + 1]) for at in range(0, 12, 2)]))
        for first, second, expected in (("each", "some", True), ("some", "each", False)):
            formula = pairs
            for at in range(11, -1, -1):
                formula = ((first, second)[at % 2], names[at], formula)
            check_call(self, holds, returned(expected), formula=formula, world={})
            self.assertEqual(holds(("not", formula), {}), not expected)
        odd = letters[0]
        for letter in letters[1:]:
            odd = ("same", odd, letter)
        for last, expected in (("some", True), ("each", False)):
            formula = (last, names[11], odd)
            for name in names[:11]:
                formula = ("each", name, formula)
            check_call(self, holds, returned(expected), formula=formula, world={})

    def test_many_beside_one_another(self):
        block = nested(("same", A, B), 6, lambda part: ("each", "a", ("some", "b", part)))
        for word, parts, expected in (("and", (block,) * 20, True), ("or", (("not", block),) * 20, False),
                                      ("and", (block,) * 19 + (("not", block),), False)):
            check_call(self, holds, returned(expected), formula=(word, parts), world={})

    def test_calls(self):
        for formula, world, expected in (
            (TURN, {}, True), (("some", "x", ("same", X, A)), {"a": False, "x": True}, True),
            (("and", (X, ("each", "x", ("same", X, A)))), {"a": True, "x": True}, False),
            (("each", "x", ("some", "y", ("same", X, Y))), {}, True), (("some", "y", ("each", "x", ("same", X, Y))), {}, False),
            (A, {"a": True}, True), (A, {"a": False}, False), (YES, {}, True), (NO, {}, False), (("not", NO), {}, True),
            (("same", NO, NO), {}, True), (("same", YES, NO), {}, False), (("each", "a", YES), {}, True), (("some", "a", NO), {}, False),
            (("each", "b", A), {"a": True}, True), (("some", "b", A), {"a": False}, False),
            (("or", (A, B)), {"a": False, "b": True}, True), (("and", (A, B)), {"a": False, "b": True}, False),
        ):
            check_call(self, holds, returned(expected), formula=formula, world=world)

    def test_what_holds(self):
        dice = random.Random(659)
        fresh = {"a": "x1", "b": "x2", "x": "x3", "y": "x4"}
        for _ in range(300):
            one, other = [random_formula(dice, dice.randint(2, 12)) for _ in range(2)]
            world = {name: dice.random() < 0.5 for name in NAMES}
            told = ("or", (("and", (one, other)), ("and", (("not", one), ("not", other)))))
            self.assertEqual(holds(("same", one, other), world), holds(told, world))
            self.assertEqual(holds(("not", ("each", "x", one)), world), holds(("some", "x", ("not", one)), world))
            self.assertEqual(holds(("each", "z", one), world), holds(one, world))
            renamed = called(one, fresh)
            self.assertEqual(holds(renamed, {fresh[name]: flag for name, flag in world.items()}), holds(one, world))


class PartingWorldTest(unittest.TestCase):
    def check(self, one, other):
        expected = plain_parting(one, other)
        self.assertEqual(repr(parting_world(one, other)), repr(expected))
        self.assertEqual(parting_world(other, one), expected)
        return expected

    def test_small_formulas(self):
        formulas = [formula for nodes in range(1, 4) for formula in all_formulas(nodes)]
        dice = random.Random(661)
        seen = {}
        for one in formulas:
            for other in dice.sample(formulas, 15):
                seen[self.check(one, other)] = True
        self.assertIn(None, seen)
        self.assertIn((), seen)
        self.assertIn((("a", False), ("b", False)), seen)

    def test_six_names(self):
        names = ("z", "b", "a", "a0", "aa", "y")
        dice = random.Random(673)
        seen = {}
        for _ in range(150):
            words = ("not", "and", "or", "same", "some") if dice.random() < 0.3 else ("not", "and", "or")
            one = random_formula(dice, 30, names, words)
            way = dice.choice(("part", "same", "other"))
            other = {"part": ("and", (one, random_formula(dice, 10, names, words))), "same": ("not", ("not", one)),
                     "other": random_formula(dice, 20, names, words)}[way]
            if most_within(one) <= 6 and most_within(other) <= 6:
                found = self.check(one, other)
                seen[found is None] = seen.get(found is None, 0) + 1
                if found is not None:
                    self.assertEqual([name for name, _ in found], sorted({*free_names(one), *free_names(other)}))
        self.assertGreater(min(seen.values()), 20)

    def test_the_order_of_worlds(self):
        letters = [("letter", f"n{number}") for number in range(6)]
        for world in all_worlds([letter[1] for letter in letters]):
            one = ("and", tuple([letter if world[letter[1]] else ("not", letter) for letter in letters]))
            check_call(self, parting_world, returned(tuple(world.items())), one=one, other=("and", (NO, *letters)))
        for first, second, expected in ((A, B, (("a", True), ("b", False))), (("not", A), ("or", (A, B)), (("a", True), ("b", True))),
                                        (("and", (A, ("not", B))), ("and", (B, ("not", A))), (("a", True), ("b", False)))):
            self.assertEqual(self.check(first, second), expected)

    def test_calls(self):
        for one, other, expected in (
            (("same", A, B), ("and", (A, B)), (("a", False), ("b", False))),
            (("not", ("and", (A, B))), ("or", (("not", A), ("not", B))), None), (YES, NO, ()), (YES, YES, None),
            (A, A, None), (A, ("and", (A, ("or", (B, ("not", B))))), None), (A, ("not", A), (("a", True),)),
            (("each", "a", A), NO, None), (("each", "a", B), B, None), (TURN, YES, None), (TURN, NO, ()),
        ):
            check_call(self, parting_world, returned(expected), one=one, other=other)


if __name__ == "__main__":
    unittest.main()
