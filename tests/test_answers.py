import random
import unittest
from itertools import product

from eachsome.answers import answers_error, answers_reply
from eachsome.errors import Unfit
from eachsome.plays import result
from tests.finding import rich_sentence
from tests.helpers import any_values, check_call, raised, returned
from tests.making import filled_sentence, random_owners, random_sentence
from tests.plain_answers import (
    all_answers, plain_answers_error, plain_set, plain_wins, plays_by, random_answers, some_letters, winning_answers,
)

SAME = ("es", ((-1, 2), (1, -2)))
ODD = (None, True, False, 0, 1, -1, "no", "all", (), [], {}, ("no",), ("all",), ("no", ()), ("all", ()), ["no"],
       ["all", ()], ("all", []), ("all", (0,)), ("all", (True,)), ("all", (1, 1)), ("all", (1, -1)), ("all", (3, 1)),
       ("all", (1,)), ("all", 1), ("all", None), ("all", (), ()), ("all", ("1",)), ("all", (None,)), ("yes",), ("ALL", ()),
       ("all", (10 ** 399,)), (("no",),), ("some", (1,)), (None,), ([],), ({}, ()), ("all", {}))


class AnswersErrorTest(unittest.TestCase):
    def check(self, sentence, value, calls=True):
        expected = plain_answers_error(sentence, value)
        if expected == "unfit":
            check_call(self, answers_error, raised(Unfit()), sentence=sentence, value=value)
        elif calls:
            check_call(self, answers_error, returned(expected), sentence=sentence, value=value)
        else:
            self.assertEqual(repr(answers_error(sentence, value)), repr(expected), (sentence, value))
        return expected

    def test_all_answers_of_small_sentences(self):
        dice = random.Random(431)
        seen = {}
        for owners in ("", "e", "s", "es", "se", "ees", "ess", "ses", "ese", "eses"):
            for _ in range(12):
                sentence = (owners, rich_sentence(dice, len(owners), 6)[1])
                for chosen in product(*[all_answers(owners, letter) for letter in some_letters(owners)]):
                    value = tuple(zip(some_letters(owners), chosen))
                    expected = self.check(sentence, value, calls=False)
                    seen[expected] = True
        self.assertLessEqual({None, ("fails", 0), ("fails", 1), ("fails", 2), ("fails", 3)}, set(seen))

    def test_random_answers(self):
        dice = random.Random(433)
        seen = {"fails": 0, None: 0, "unfit": 0}
        for _ in range(3000):
            letters = dice.randint(3, 8)
            sentence = rich_sentence(dice, letters, dice.randint(1, 5), dice.choice((2, 3, 5)))
            value = random_answers(dice, sentence[0])
            expected = plain_answers_error(sentence, value)
            seen[expected[0] if type(expected) is tuple else expected] += 1
            if expected == "unfit":
                with self.assertRaises(Unfit):
                    answers_error(sentence, value)
            else:
                self.assertEqual(answers_error(sentence, value), expected, (sentence, value))
        self.assertGreater(min(seen.values()), 60)

    def test_the_letters_that_make_two_positive_ones_no(self):
        dice = random.Random(439)
        seen = {}
        for _ in range(1500):
            clause = (5, 6) if dice.random() < 0.7 else (dice.choice((-1, 1)) * dice.randint(1, 4), 5, 6)
            sentence = ("eeeess", (clause,))
            value = random_answers(dice, "eeeess")
            seen[self.check(sentence, value, calls=False)] = True
        self.assertEqual(set(seen), {None, ("fails", 0)})
        for one, other, expected in (
            ((1,), (-1,), None), ((1,), (1,), ("fails", 0)), ((1, 2), (-1,), ("fails", 0)), ((1, 2), (-1, -2), ("fails", 0)),
            ((), (1,), None), ((1,), (), None), ((-3,), (3,), None), ((3,), (-1, -3), ("fails", 0)),
        ):
            value = ((5, ("all", one)), (6, ("all", other)))
            self.assertEqual(self.check(("eeeess", ((5, 6),)), value), expected)

    def test_contraries_that_are_at_odds(self):
        for clause, answers, expected in (
            ((-3, -4), ((1,), (-1,)), None), ((-3, -4), ((1,), (2,)), ("fails", 0)), ((-3, -4), ((1,), (1,)), ("fails", 0)),
            ((1, -3), ((1,), ()), None), ((1, -3), ((-1,), ()), ("fails", 0)), ((-1, -3), ((1, 2), ()), ("fails", 0)),
            ((-1, -3), ((-1, 2), ()), None), ((-3, 4), ((1,), (1,)), None), ((-3, 4), ((1,), (1, 2)), ("fails", 0)),
            ((-3, 4), ((1, 2), (1,)), None), ((-3, 4), ((1,), (-1,)), ("fails", 0)), ((-3, 4), ((), ()), None),
            ((-2, 4), ((), (2,)), None), ((2, 4), ((), (2,)), ("fails", 0)), ((2, 4), ((), (-2,)), None),
        ):
            value = ((3, ("all", answers[0])), (4, ("all", answers[1])))
            self.assertEqual(self.check(("eess", (clause,)), value), expected)
        for clause, expected in (((-3, -4), None), ((-3, 4), None), ((3, -4), ("fails", 0)), ((3,), ("fails", 0)),
                                 ((-3,), None), ((1, 3), ("fails", 0)), ((4,), None), ((), ("fails", 0))):
            value = ((3, ("no",)), (4, ("all", ())))
            self.assertEqual(self.check(("eess", (clause,)), value), expected)

    def test_form_letter_answer(self):
        sentence = ("eses", ((-1, 2), (1, -2)))
        right = ((2, ("all", (1,))), (4, ("no",)))
        self.assertIsNone(self.check(sentence, right))
        for value, expected in (
            ((), "form"), (right[:1], "form"), (right + ((5, ("no",)),), "form"), (list(right), "form"), (None, "form"),
            ((right[0], None), "form"), ((right[0], (4,)), "form"), ((right[0], [4, ("no",)]), "form"), ("no", "form"),
            (((2, ("no",), 1), right[1]), "form"), (right[::-1], ("letter", 0)), ((right[1], right[0]), ("letter", 0)),
            (((True, ("no",)), right[1]), ("letter", 0)), ((right[0], right[0]), ("letter", 1)),
            ((right[0], (3, ("no",))), ("letter", 1)), ((right[0], (-4, ("no",))), ("letter", 1)),
            ((("2", ("no",)), right[1]), ("letter", 0)), (((2, None), (None, None)), ("answer", 0)),
            (((2, None), ()), "form"), (((None, None), (4, None)), ("letter", 0)),
            ((right[0], (4, ("all", (2,)))), ("answer", 1)), ((right[0], (4, ("all", (-2,)))), ("answer", 1)),
            ((right[0], (4, ("all", (1, 3)))), None), ((right[0], (4, ("all", (3, 1)))), ("answer", 1)),
            ((right[0], (4, ("all", (4,)))), ("answer", 1)), ((right[0], (4, ("all", (5,)))), ("answer", 1)),
            ((right[0], (4, ("all", (1, -1)))), ("answer", 1)), (((2, ("all", (3,))), right[1]), ("answer", 0)),
            (((2, ("all", (2,))), right[1]), ("answer", 0)), (((2, ("all", (-1,))), right[1]), ("fails", 0)),
            (((2, ("no",)), (4, ("all", [1]))), ("answer", 1)),
        ):
            with self.subTest(value=value):
                self.assertEqual(self.check(sentence, value), expected)
        for odd in ODD:
            self.check(sentence, ((2, odd), (4, ("no",))))
            self.check(sentence, ((2, ("all", (1,))), (4, odd)))
            self.check(sentence, ((odd, ("all", (1,))), (4, ("no",))))
            self.check(sentence, (odd, (4, ("no",))))
            self.check(sentence, odd)

    def test_any_values(self):
        for value in any_values():
            self.check(SAME, value)
            self.check(SAME, (value,))
            self.check(SAME, ((2, value),))
            self.check(SAME, ((value, ("no",)),))
            self.check(SAME, ((2, ("all", value)),))
            self.check(SAME, ((2, ("all", (value,))),))

    def test_unfit_comes_first(self):
        for sentence in (("sss", ((1, 2, 3),)), ("esss", ((1,), (-1, 2, 3, 4))), ("ssss", ((1,), (1, -2, 3, 4)))):
            for value in ((), None, ((1, ("no",)),), ((2, None), (3, None), (4, None)), [1]):
                self.assertEqual(self.check(sentence, value), "unfit")
        for sentence in (("sss", ((1, 2, -3),)), ("eeess", ((1, 2, 3, 4, 5),)), ("sss", ((-1, -2, -3),)), ("sse", ((1, 2, 3),))):
            self.assertEqual(self.check(sentence, ()), "form")

    def test_no_letters_of_one_party(self):
        for sentence in (("", ()), ("", ((),)), ("e", ((1,),)), ("ee", ()), ("ee", ((1, -2),)), ("e" * 5, ((), (1,)))):
            self.check(sentence, ())
            self.check(sentence, ((1, ("no",)),))
        self.check(("ss", ((1,), (-2,))), ((1, ("all", ())), (2, ("no",))))
        self.check(("ss", ((1,), (-2,))), ((1, ("all", ())), (2, ("all", ()))))

    def test_great_sentences(self):
        dice = random.Random(443)
        seen = {None: 0, "fails": 0}
        for number in range(60):
            owners = dice.choice(("es" * 30, "e" * 40 + "s" * 20, random_owners(dice, 60)))
            value = random_answers(dice, owners)
            clauses = filled_sentence(dice, 60, 200, 2)[1]
            clauses = tuple([clause for clause in clauses if clause])
            if number % 3:
                clauses = tuple([clause for clause in clauses if answers_error((owners, (clause,)), value) is None])
            error = answers_error((owners, clauses), value)
            seen[error if error is None else error[0]] += 1
            for _ in range(30):
                play = self.random_play(dice, owners, value)
                failing = [place for place, clause in enumerate(clauses) if not set(clause) & set(play)]
                self.assertEqual(result((owners, clauses), play) == "each", failing != [])
                if failing:
                    self.assertLessEqual(error[1], failing[0])
            if error is not None:
                self.assertTrue(self.fails(owners, value, clauses[error[1]]))
                self.assertFalse(any([self.fails(owners, value, clause) for clause in clauses[:error[1]]]))
        self.assertGreater(min(seen.values()), 10)

    def random_play(self, dice, owners, value):
        told = dict(value)
        play = ()
        for k, owner in enumerate(owners):
            play += (plain_set(told[k + 1], k + 1, play) if owner == "s" else dice.choice((-1, 1)) * (k + 1),)
        return play

    def fails(self, owners, value, clause):
        """By plays of those letters alone on which the clause hangs, if they are not too many."""
        told = dict(value)
        demands = []
        for literal in clause:
            if owners[abs(literal) - 1] == "e":
                demands.append([{-literal}])
            elif literal < 0:
                demands.append([] if told[-literal] == ("no",) else [set(told[-literal][1])])
            else:
                answer = told[literal]
                demands.append([set()] if answer == ("no",) else [{-k} for k in answer[1]])
        for chosen in product(*demands):
            world = set().union(*chosen)
            if not any([-k in world for k in world]):
                return True
        return False

    def test_many_literals(self):
        owners = "e" * 58 + "ss"
        whole = tuple([(-1) ** k * k for k in range(1, 59)])
        against = tuple([-k for k in whole])
        for one, other, clause, expected in (
            (whole, against, (-59, -60), None), (whole, whole, (-59, -60), ("fails", 0)), (whole, whole, (-59, 60), None),
            (whole, whole[:57], (-59, 60), None), (whole[:57], whole, (-59, 60), ("fails", 0)),
            (whole, against, (59, 60), ("fails", 0)), (whole[:1], against[:1], (59, 60), None),
            (whole, against, (whole[3], 59), ("fails", 0)), (whole, against, (whole[3], -59), None),
        ):
            value = ((59, ("all", one)), (60, ("all", other)))
            check_call(self, answers_error, returned(expected), sentence=(owners, (clause,)), value=value)
            self.assertEqual(self.fails(owners, value, clause), expected is not None)


class AnswersReplyTest(unittest.TestCase):
    def test_along_plays(self):
        dice = random.Random(449)
        for _ in range(200):
            sentence = random_sentence(dice, dice.randint(0, 7), 4)
            answers = random_answers(dice, sentence[0])
            for play in plays_by(sentence, answers):
                for letter in some_letters(sentence[0]):
                    self.assertEqual(answers_reply(answers, play[:letter - 1]), play[letter - 1])

    def test_answers_that_win(self):
        dice = random.Random(457)
        found = 0
        while found < 60:
            sentence = rich_sentence(dice, dice.randint(1, 5), 5)
            answers = next(winning_answers(sentence), None)
            if answers is not None:
                found += 1
                self.assertTrue(plain_wins(sentence, answers))
                for play in plays_by(sentence, answers):
                    self.assertEqual(result(sentence, play), "some")
                    self.assertEqual([answers_reply(answers, play[:letter - 1]) for letter in some_letters(sentence[0])],
                                     [play[letter - 1] for letter in some_letters(sentence[0])])

    def test_calls(self):
        whole = tuple(range(-1, -60, -1))
        for answers, play, literal in (
            (((2, ("all", (1,))),), (1,), 2), (((2, ("all", (1,))),), (-1,), -2), (((1, ("no",)),), (), -1),
            (((1, ("all", ())),), (), 1), (((2, ("all", (-1,))),), (-1,), 2), (((2, ("all", (-1,))),), (1,), -2),
            (((2, ("all", ())), (3, ("no",))), (1, 2), -3), (((2, ("no",)), (3, ("all", (1,)))), (1, -2), 3),
            (((60, ("all", whole)),), whole, 60), (((60, ("all", whole)),), whole[:58] + (59,), -60),
            (((4, ("all", (1, -2))),), (1, -2, 3), 4), (((4, ("all", (1, -2))),), (1, 2, 3), -4),
            (((4, ("all", (1, -2))),), (-1, -2, 3), -4),
        ):
            check_call(self, answers_reply, returned(literal), answers=answers, play=play)


if __name__ == "__main__":
    unittest.main()
