import random
import unittest

from eachsome.plays import play_error, result, state_of
from tests.helpers import any_values, check_call, returned
from tests.making import all_plays, random_clause, random_sentence
from tests.plain import plain_play_error, plain_result, plain_state

SENTENCES = [("", ()), ("e", ()), ("es", ((1, 2),)), ("seses", ((1,), (-5,))), ("s" * 12, ()), ("es" * 30, ((60,),))]


class PlayErrorTest(unittest.TestCase):
    def check(self, sentence, value, expected):
        self.assertEqual(plain_play_error(len(sentence[0]), value), expected)
        check_call(self, play_error, returned(expected), sentence=sentence, value=value)

    def test_plays(self):
        for letters in range(6):
            for play in all_plays(letters):
                self.assertIsNone(play_error(("e" * letters, ()), play))
        for sentence in SENTENCES:
            letters = len(sentence[0])
            whole = tuple([letter if letter % 3 else -letter for letter in range(1, letters + 1)])
            for many in {0, letters // 2, letters}:
                self.check(sentence, whole[:many], None)
            self.check(sentence, whole + (letters + 1,), "form")

    def test_any_values(self):
        for sentence in SENTENCES:
            for value in any_values():
                with self.subTest(sentence=sentence, value=repr(value)[:60]):
                    if type(value) is tuple and plain_play_error(len(sentence[0]), value) is None:
                        self.assertIsNone(play_error(sentence, value))
                    else:
                        error = play_error(sentence, value)
                        self.assertIsNotNone(error)
                        self.check(sentence, value, error)

    def test_form_comes_first(self):
        sentence = ("ese", ((1,),))
        for value in ((1, 2, 3, 4), (7, None, True, []), (1, 2, 3, 4, 5), [1, 2], [], {}, {1: 2}, "", "1", None, 1, 0,
                      True, False):
            self.check(sentence, value, "form")
        self.check(("", ()), (1,), "form")
        self.check(("", ()), (None,), "form")
        self.check(("", ()), (), None)

    def test_first_wrong_move(self):
        sentence = ("eses", ())
        for value, place in (((2,), 0), ((0,), 0), ((True,), 0), ((None,), 0), (("1",), 0), (((1,),), 0), (([1],), 0),
                             ((-2,), 0), ((1, 1), 1), ((1, -1), 1), ((1, 3), 1), ((1, True), 1), ((1, 2, 0), 2),
                             ((1, 2, 4), 2), ((-1, -2, -3, 5), 3), ((3, 4, 5), 0), ((1, 7, 0), 1), ((False,), 0),
                             ((10 ** 399,), 0), ((1, 2, 3, "4"), 3), ((2, 1), 0), ((-1, 2, 3, {}), 3)):
            self.check(sentence, value, ("move", place))


class StateOfTest(unittest.TestCase):
    def test_clauses_and_plays_of_any_letters(self):
        dice = random.Random(53)
        for letters in (0, 1, 2, 3, 5, 12, 60):
            for _ in range(200):
                clause = random_clause(dice, letters, dice.choice((1, 2, 4, letters)))
                play = tuple([dice.choice((-1, 1)) * letter for letter in range(1, dice.randint(0, letters + 3) + 1)])
                expected = plain_state(clause, play)
                self.assertEqual(state_of(clause, play), expected, (clause, play))

    def test_calls(self):
        for clause, play, expected in (
            ((), (), "lost"), ((), (1,), "lost"), ((), (-1, 2, 3), "lost"), ((1,), (), "open"), ((1,), (1,), "true"),
            ((1,), (-1,), "lost"), ((-1,), (-1,), "true"), ((-1,), (1,), "lost"), ((1, 2), (-1,), "open"),
            ((1, 2), (1,), "true"), ((1, 3), (-1, 2), "open"), ((3,), (1, 2), "open"), ((1, 60), (-1, 2), "open"),
            ((1, -2), (-1, 2, 3), "lost"), ((1, -2), (-1, -2), "true"), ((2,), (1, 2, 3, 4, 5), "true"),
            ((-60,), tuple(range(1, 62)), "lost"),
        ):
            check_call(self, state_of, returned(expected), clause=clause, play=play)


class ResultTest(unittest.TestCase):
    def test_whole_plays(self):
        dice = random.Random(59)
        seen = set()
        for letters in range(7):
            for _ in range(40):
                sentence = random_sentence(dice, letters, 4)
                for play in all_plays(letters)[-2 ** letters:]:
                    expected = plain_result(sentence, play)
                    seen.add(expected)
                    self.assertEqual(result(sentence, play), expected)
        self.assertEqual(seen, {"some", "each"})

    def test_calls(self):
        for sentence, play, expected in (
            (("", ()), (), "some"), (("", ((),)), (), "each"), (("s", ()), (-1,), "some"), (("s", ((1,),)), (-1,), "each"),
            (("es", ((1,), (2,))), (1, -2), "each"), (("es", ((1,), (2,))), (1, 2), "some"),
            (("es", ((1,), ())), (1, 2), "each"), (("e" * 60, ((-60,),)), tuple(range(1, 61)), "each"),
        ):
            check_call(self, result, returned(expected), sentence=sentence, play=play)


if __name__ == "__main__":
    unittest.main()
