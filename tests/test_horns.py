import random
import unittest
from itertools import combinations

from eachsome.answers import answers_error
from eachsome.errors import Unfit
from eachsome.horns import horn_solved, once_no, yes_letters
from eachsome.meaning import winner
from eachsome.papers import paper_error
from tests.helpers import check_call, outcome, raised, returned
from tests.making import all_owners
from tests.plain import plain_judged
from tests.plain_answers import plain_wins
from tests.plain_horns import great_horns, horn_chains, horn_sentence, plain_once, plain_yes, told_answers
from tests.plain_webs import all_clauses

STEPS, LOST, MUST = ("eses", ((-1, 2), (-2, -3, 4), (3, -4))), ("se", ((1,), (-1, 2))), ("es", ((-1, 2), (-2,)))


def small_sentences(seed, many):
    dice = random.Random(seed)
    for number in range(many):
        letters = dice.randint(1, 7)
        yield horn_sentence(dice, letters, dice.randint(1, 12), 4, dice.choice((0.8, 0.95, 1)), empty=number % 20 == 0)


class HornsTest(unittest.TestCase):
    def check(self, sentence):
        """once_no of the sentence, when all is as it should be."""
        for letter in range(len(sentence[0]) + 1):
            if letter == 0 or sentence[0][letter - 1] == "e":
                self.assertEqual(yes_letters(sentence, letter), tuple(sorted(plain_yes(sentence, letter))))
        once = plain_once(sentence)
        self.assertEqual(once_no(sentence), once)
        word, found = horn_solved(sentence)
        if once is None:
            self.assertEqual(word, "yes")
            self.assertIsNone(answers_error(sentence, found))
            self.assertIsNone(answers_error(sentence, told_answers(sentence)))
            for _, answer in found:
                self.assertTrue(answer == ("no",) or all([literal > 0 for literal in answer[1]]))
        else:
            self.assertEqual((word, found[0]), ("no", "no"))
            self.assertIsNone(paper_error(sentence, found), (sentence, found))
        return once

    def check_small(self, sentence):
        once = self.check(sentence)
        self.assertEqual(once is None, winner(sentence, ()) == "some", sentence)
        found = horn_solved(sentence)[1]
        if once is None:
            self.assertTrue(plain_wins(sentence, found))
        else:
            self.assertIsNone(plain_judged(sentence, found)[0])
        return once if once is None or once < 2 else 2

    def test_all_sentences_of_few_letters_and_clauses(self):
        seen = {}
        for letters, most in ((0, 1), (1, 3), (2, 4), (3, 2)):
            clauses = [clause for clause in all_clauses(letters) if len([k for k in clause if k > 0]) < 2]
            for owners in all_owners(letters):
                for many in range(most + 1):
                    for chosen in combinations(clauses, many):
                        seen[self.check_small((owners, chosen))] = True
        self.assertEqual(set(seen), {None, 0, 1, 2})

    def test_small_sentences(self):
        seen = {}
        for sentence in small_sentences(503, 1500):
            once = self.check_small(sentence)
            seen[once] = seen.get(once, 0) + 1
        self.assertEqual(set(seen), {None, 0, 1, 2})
        self.assertGreater(min(seen.values()), 40)

    def test_long_chains(self):
        seen, longest = {}, 0
        for sentence in horn_chains(509, 60):
            once = self.check(sentence)
            seen[once if once is None or once < 1 else 1] = True
            if once is not None:
                longest = max(longest, len(horn_solved(sentence)[1][1]))
        self.assertEqual(set(seen), {None, 0, 1})
        self.assertGreater(longest, 150)

    def test_great_sentences(self):
        seen = {}
        for sentence in great_horns(521, 24):
            once = self.check(sentence)
            seen[once if once is None or once < 1 else 1] = True
        self.assertEqual(set(seen), {None, 0, 1})

    def test_letters_beyond_the_no(self):
        # Where EACH says no to 2, 3 has to be yes by another clause than where EACH says yes to all.
        sentence = ("eeses", ((-2, 3), (-1, 3), (-3, -4, 5), (2, -3), (-5,)))
        self.assertEqual([yes_letters(sentence, letter) for letter in (0, 1, 2, 4)], [(3, 5), (3, 5), (3, 5), (3,)])
        self.assertEqual(self.check_small(sentence), 0)
        sentence = ("eeses", ((-2, 3), (-1, 3), (-3, -4, 5), (2, -3)))
        self.assertEqual(self.check_small(sentence), 2)
        sentence = ("ees", ((-2, 3), (2, -3)))
        self.assertEqual([yes_letters(sentence, letter) for letter in (0, 1, 2)], [(3,), (3,), ()])
        self.assertEqual(self.check_small(sentence), None)

    def test_a_letter_ahead_of_the_no_that_hangs_on_one_behind(self):
        sentence = ("ses", ((3,), (1, -3), (-1, 2)))
        self.assertEqual(yes_letters(sentence, 2), (1, 3))
        self.assertEqual(self.check_small(sentence), 2)
        sentence = ("ses", ((-2, 3), (1, -3), (-1, 2)))
        self.assertEqual([yes_letters(sentence, letter) for letter in (0, 2)], [(1, 3), (1,)])
        self.assertEqual(self.check_small(sentence), 2)

    def test_no_letters_of_one_party_and_odd_clauses(self):
        for sentence, once in ((("", ()), None), (("", ((),)), 0), (("ee", ()), None), (("ss", ()), None), (("e", ((1,),)), 1),
                               (("e", ((-1,),)), 0), (("ee", ((2,),)), 2), (("ee", ((-1, 2), (1,))), 1), (("ee", ((-1, -2),)), 0),
                               (("ee", ((1, -2), (-1, 2))), 1), (("s", ((1,), (-1,))), 0), (("s", ((1,),)), None),
                               (("es", ((), (1,))), 0), (("s" * 60, ((1,), ())), 0), (("e" * 60, ((60,),)), 60)):
            self.assertEqual(self.check(sentence), once)
            check_call(self, once_no, returned(once), sentence=sentence)

    def test_unfit(self):
        for sentence in (("ss", ((1, 2),)), ("ee", ((1, 2),)), ("ese", ((), (1,), (-1, 2, 3))), ("es" * 30, ((1, 60),))):
            check_call(self, once_no, raised(Unfit()), sentence=sentence)
            check_call(self, horn_solved, raised(Unfit()), sentence=sentence)
            for letter in (0, 1, 2, -1, 61):
                check_call(self, yes_letters, raised(Unfit()), sentence=sentence, letter=letter)
        for letter in (2, 4, 5, -1, -3, 60, 10 ** 399, -(10 ** 399)):
            check_call(self, yes_letters, raised(Unfit()), sentence=STEPS, letter=letter)
        check_call(self, yes_letters, raised(Unfit()), sentence=("", ()), letter=1)
        check_call(self, yes_letters, returned(()), sentence=("", ()), letter=0)

    def test_calls(self):
        for letter, expected in ((0, (2, 4)), (1, ()), (3, (2,))):
            check_call(self, yes_letters, returned(expected), sentence=STEPS, letter=letter)
        for letter in (0, 2):
            check_call(self, yes_letters, returned((1,)), sentence=LOST, letter=letter)
        for sentence, once in ((STEPS, None), (LOST, 2), (MUST, 0), (("ss", ((-1, 2), (-2,))), None)):
            check_call(self, once_no, returned(once), sentence=sentence)
            check_call(self, horn_solved, outcome(lambda: horn_solved(sentence)), sentence=sentence)
            self.check_small(sentence)
        self.assertIsNone(answers_error(STEPS, ((2, ("all", (1,))), (4, ("all", (1, 3))))))


if __name__ == "__main__":
    unittest.main()
