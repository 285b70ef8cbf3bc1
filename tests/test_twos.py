import random
import unittest
from itertools import combinations

from eachsome.answers import answers_error
from eachsome.errors import Unfit
from eachsome.meaning import winner
from eachsome.papers import paper_error
from eachsome.twos import two_fault, two_solved
from tests.helpers import check_call, outcome, raised, returned
from tests.making import all_owners, filled_sentence, random_sentence
from tests.plain import plain_judged
from tests.plain_answers import plain_wins, some_letters
from tests.plain_webs import (
    all_clauses, chained, few_of_each, great_sentences, plain_fault, two_sentence, way_clauses,
)

SAME, LATE, CHAIN = ("es", ((-1, 2), (1, -2))), ("se", ((-1, 2), (1, -2))), ("ees", ((-1, 3), (2, -3)))


def small_sentences(seed, many):
    dice = random.Random(seed)
    for _ in range(many):
        letters = dice.randint(1, 7)
        sentence = two_sentence(dice, letters, dice.randint(0, 7))
        yield sentence
        yield few_of_each(dice, sentence)
        yield random_sentence(dice, letters, dice.randint(0, 5), 2)


def few_clauses(letters, most):
    """All sentences of so many letters, all owners, with at most so many clauses of at most two literals."""
    for owners in all_owners(letters):
        for many in range(most + 1):
            for clauses in combinations(all_clauses(letters), many):
                yield (owners, clauses)


class TwosTest(unittest.TestCase):
    def check(self, sentence):
        """The word of the fault, when all is as it should be."""
        fault = plain_fault(sentence)
        self.assertEqual(two_fault(sentence), fault, sentence)
        word, found = two_solved(sentence)
        if fault is not None:
            self.assertEqual((word, found[0]), ("no", "no"))
            self.assertIsNone(paper_error(sentence, found), (sentence, found))
            return fault[0]
        self.assertEqual(word, "yes")
        self.assertIsNone(answers_error(sentence, found), (sentence, found))
        for _, answer in found:
            self.assertTrue(answer == ("no",) or len(answer[1]) < 2)
        return None

    def check_small(self, sentence):
        word = self.check(sentence)
        self.assertEqual(word is None, winner(sentence, ()) == "some", sentence)
        found = two_solved(sentence)[1]
        if word is None:
            self.assertTrue(plain_wins(sentence, found))
        else:
            self.assertIsNone(plain_judged(sentence, found)[0])
        return word

    def test_all_sentences_of_few_letters_and_clauses(self):
        seen = {}
        for letters, most in ((0, 1), (1, 3), (2, 4), (3, 2)):
            for sentence in few_clauses(letters, most):
                word = self.check_small(sentence)
                seen[word] = seen.get(word, 0) + 1
        self.assertEqual(set(seen), {None, "empty", "each", "knot", "late"})

    def test_small_sentences(self):
        seen = {}
        for sentence in small_sentences(479, 900):
            word = self.check_small(sentence)
            seen[word] = seen.get(word, 0) + 1
        self.assertEqual(set(seen), {None, "empty", "each", "knot", "late"})
        self.assertGreater(min(seen.values()), 40)

    def test_great_sentences(self):
        seen = {}
        for sentence in great_sentences(487, 90):
            seen[self.check(sentence)] = True
        dice = random.Random(491)
        for owners in ("es" * 30, "s" * 60, "e" * 60):
            clauses = filled_sentence(dice, 60, 200, 2)[1]
            seen[self.check((owners, clauses))] = True
        self.assertLessEqual({None, "each", "knot", "empty"}, set(seen))

    def test_long_ways(self):
        longest = {}
        for word, sentence in chained(499, 120):
            self.assertEqual(self.check(sentence), word)
            found = two_solved(sentence)[1]
            longest[word] = max(longest.get(word, 0), len(found if word is None else found[1]))
        self.assertEqual(set(longest), {None, "each", "knot", "late"})
        self.assertGreater(min(longest.values()), 40)

    def test_chains_with_a_clause_of_one_literal(self):
        letters = 60
        for place in (0, 1, 30, 57, 58):
            names = [(-1) ** k * k for k in range(1, letters + 1)]
            clauses = way_clauses(names[:place + 1]) + [(-names[place],)] + way_clauses([-names[place]] + names[place + 1:])
            for owners in ("e" + "s" * 58 + "e", "s" * 60, "s" * 59 + "e"):
                sentence = (owners, tuple(sorted(set(clauses))))
                self.check(sentence)
                back = way_clauses([-names[0]] + [names[0]])
                self.check((owners, tuple(sorted(set(clauses + back)))))
        for first in (1, -1):
            sentence = ("e" + "s" * 59, ((first,), (-first, 2)))
            self.assertEqual(two_fault(sentence), ("each", -first, first))
            self.assertEqual(two_solved(sentence), ("no", ("no", (("clause", 0), ("drop", 0)))))

    def test_the_first_fault_in_order(self):
        for sentence, fault in (
            (SAME, None), (LATE, ("late", 1, 2)), (CHAIN, ("each", 1, 2)), (("s", ((1,), (-1,))), ("knot", 1)),
            (("e", ((1,),)), ("each", -1, 1)), (("s", ((),)), ("empty", 0)), (("se", ((1, 2),)), None),
            (("e", ((1,), ())), ("empty", 1)), (("ss", ((1, 2), (1, -2), ())), ("empty", 2)), (("", ()), None),
            (("", ((),)), ("empty", 0)), (("ees", ()), None), (("ee", ((1, 2),)), ("each", -1, 2)),
            (("ee", ((-1, -2),)), ("each", 1, -2)), (("see", ((2,), (-2, 3), (1,), (-1,))), ("each", 2, 3)),
            (("see", ((2,), (1,), (-1,))), ("each", -2, 2)), (("ssss", ((3,), (-3,), (-2, 4), (2, 4), (-4,))), ("knot", 2)),
            (("sse", ((1,), (-1,), (-2, 3), (2, -3))), ("knot", 1)), (("sse", ((-2, 3), (2, -3), (1,))), ("late", 2, 3)),
            (("sse", ((2, 3), (-2, -3))), ("late", 2, -3)), (("sees", ((1, 3), (-1, -3))), ("late", 1, -3)),
            (("sse", ((-2, 3), (2, -3), (-1, 3), (1, -3))), ("late", 1, 3)), (("ses", ((-2, 3), (2, -3))), None),
            (("ee", ((-1,), (1, 2))), ("each", 1, -1)), (("ee", ((1, -2), (2,))), ("each", -1, 1)),
        ):
            self.assertEqual(plain_fault(sentence), fault)
            check_call(self, two_fault, returned(fault), sentence=sentence)
            self.check_small(sentence)

    def test_a_clause_at_each_place(self):
        clauses = ((1, 2), (-1, -2), (1, -2), (3,))
        for place in range(5):
            for owners in ("eee", "sss", "ses"):
                sentence = (owners, clauses[:place] + ((),) + clauses[place:])
                self.assertEqual(two_fault(sentence), ("empty", place))
                self.assertEqual(two_solved(sentence), ("no", ("no", (("clause", place),))))

    def test_unfit(self):
        for sentence in (("sss", ((1, 2, 3),)), ("ese", ((), (-1, 2, -3))), ("e" * 60, ((1,), (1, 2, 60)))):
            check_call(self, two_fault, raised(Unfit()), sentence=sentence)
            check_call(self, two_solved, raised(Unfit()), sentence=sentence)

    def test_calls(self):
        check_call(self, two_solved, returned(("yes", ((2, ("all", (1,))),))), sentence=SAME)
        check_call(self, two_solved, returned(("yes", ((1, ("all", ())),))), sentence=("se", ((1, 2),)))
        check_call(self, two_solved, returned(("yes", ())), sentence=("e", ()))
        for sentence in (SAME, LATE, CHAIN, ("s", ((1,), (-1,))), ("e", ((1,),)), ("s", ((),)), ("s" * 60, ())):
            check_call(self, two_solved, outcome(lambda: two_solved(sentence)), sentence=sentence)
        free = two_solved(("s" * 60, ()))
        self.assertEqual([letter for letter, _ in free[1]], some_letters("s" * 60))


if __name__ == "__main__":
    unittest.main()
