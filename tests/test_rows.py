import random
import unittest

from eachsome.errors import Unfit
from eachsome.rows import clashes, dropped, met
from tests.helpers import check_call, raised, returned
from tests.making import all_owners, random_clause, random_owners
from tests.plain import plain_clashes, plain_dropped, plain_met


class DroppedTest(unittest.TestCase):
    def test_small_owners(self):
        for letters in range(6):
            for owners in all_owners(letters):
                for number in range(2 ** letters):
                    row = tuple([k if number & 2 ** k else -k for k in range(1, letters + 1) if number & 2 ** (k - 1)])
                    for side in ("no", "yes"):
                        self.assertEqual(dropped(owners, side, row), plain_dropped(owners, side, row))

    def test_up_to_sixty_letters(self):
        dice = random.Random(97)
        for letters in (12, 30, 59, 60):
            for _ in range(100):
                owners = dice.choice((random_owners(dice, letters), "e" * letters, "s" * letters,
                                      "e" * (letters - 1) + "s", "s" + "e" * (letters - 1)))
                row = random_clause(dice, letters, letters)
                for side in ("no", "yes"):
                    self.assertEqual(dropped(owners, side, row), plain_dropped(owners, side, row))
        whole = tuple(range(-1, -61, -1))
        self.assertEqual(dropped("e" * 60, "no", whole), ())
        self.assertEqual(dropped("e" * 60, "yes", whole), whole)
        self.assertEqual(dropped("e" * 59 + "s", "no", whole), whole)
        self.assertEqual(dropped("s" + "e" * 59, "no", whole), (-1,))

    def test_calls(self):
        for owners, side, row, expected in (
            ("se", "no", (1, 2), (1,)), ("se", "yes", (1, 2), (1, 2)), ("es", "no", (1, 2), (1, 2)),
            ("es", "yes", (1, -2), (1,)), ("eses", "no", (1, -3), ()), ("esesse", "no", (-1, 2, 3, -6), (-1, 2)),
            ("s", "yes", (1,), ()), ("s", "no", (1,), (1,)), ("", "no", (), ()), ("", "yes", (), ()),
            ("ese", "no", (-3,), ()), ("ese", "no", (-2, -3), (-2,)), ("ese", "no", (1, -2), (1, -2)),
        ):
            check_call(self, dropped, returned(expected), owners=owners, side=side, row=row)


class ClashesAndMetTest(unittest.TestCase):
    def check(self, one, other):
        letters = plain_clashes(one, other)
        check_call(self, clashes, returned(letters), one=one, other=other)
        if len(letters) == 1:
            check_call(self, met, returned(plain_met(one, other)), one=one, other=other)
        else:
            check_call(self, met, raised(Unfit()), one=one, other=other)
        return len(letters)

    def test_rows_that_clash_in_none_one_and_several(self):
        dice = random.Random(101)
        seen = {}
        for letters in (0, 1, 2, 3, 5, 12, 60):
            for _ in range(150):
                one, other = [random_clause(dice, letters, dice.choice((1, 3, letters))) for _ in "12"]
                many = self.check(one, other)
                seen[many] = True
                self.assertEqual(clashes(one, other), clashes(other, one))
        self.assertLessEqual({0, 1, 2, 3}, set(seen))

    def test_calls(self):
        whole = tuple(range(1, 61))
        for one, other in (
            ((), ()), ((1,), ()), ((1,), (1,)), ((1,), (-1,)), ((-1,), (1,)), ((1, 2), (-1, -2)), ((1, 2), (-1, 2)),
            ((1, 2), (2, 3)), ((1, -3), (1, 3, 4)), ((-2, 5), (-1, 2, 60)), ((60,), (-60,)), (whole, (-30,)),
            (whole, whole), (whole, tuple([-letter for letter in whole])), ((2, 3), (1, -2)), ((-1, -2), (1, -2)),
        ):
            with self.subTest(one=one, other=other):
                self.check(one, other)
        self.assertEqual(clashes((1, -2, 3), (-1, 2, 3)), (1, 2))
        self.assertEqual(met((3, -7), (-1, -3, 5)), (-1, 5, -7))
        self.assertEqual(met((-2,), (2,)), ())
        for one, other in (((1,), (2,)), ((1,), (1,)), ((1, 2), (-1, -2)), ((), ())):
            with self.assertRaises(Unfit):
                met(one, other)


if __name__ == "__main__":
    unittest.main()
