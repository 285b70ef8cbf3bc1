import random
import unittest
from itertools import product

from eachsome.errors import TooMany, Unfit
from eachsome.meaning import winner
from eachsome.papers import paper_error
from eachsome.plays import result
from eachsome.replies import followed
from eachsome.search import core, decided, find
from eachsome.sentences import less
from tests.finding import rich_sentence
from tests.helpers import check_call, outcome, raised, returned
from tests.making import all_owners, filled_sentence, random_clauses, random_owners, random_sentence
from tests.plain import plain_judged, plain_winner

PARTY = {"no": "each", "yes": "some"}


def xor_clauses(one, other, third):
    """Clauses that are all true where the third letter is yes just if one of the others is, and not both."""
    found = []
    for signs in product((1, -1), repeat=2):
        literals = (signs[0] * one, signs[1] * other, -signs[0] * signs[1] * third)
        found.append(tuple(sorted(literals, key=abs)))
    return found


def hard_sentences():
    """Sentences of twelve letters in which much has to be gone through."""
    chain = xor_clauses(1, 2, 7)
    for letter in range(3, 7):
        chain.extend(xor_clauses(letter, letter + 4, letter + 5))
    pairs = [clause for k in (1, 3, 5, 7, 9, 11) for clause in ((k, k + 1), (-k, -k - 1))]
    dice = random.Random(271)
    for owners in ("e" * 6 + "s" * 6, "e" * 6 + "s" * 5 + "e", "es" * 6, "se" * 6, "s" * 12, "e" * 11 + "s"):
        yield (owners, tuple(chain))
        yield (owners, tuple(pairs))
        for most in (2, 3, 4, 6, 12):
            yield (owners, tuple([clause for clause in filled_sentence(dice, 12, 200, most)[1] if len(clause) > 1]))
            yield rich_sentence(dice, 12, 30, most)


class FindTest(unittest.TestCase):
    def check(self, sentence, who):
        paper = find(sentence)
        self.assertIsNone(paper_error(sentence, paper), sentence)
        self.assertEqual(PARTY[paper[0]], who)
        self.assertEqual(decided(sentence), who)
        self.assertEqual(find(sentence), paper)
        return paper

    def test_small_sentences_of_all_owners(self):
        dice = random.Random(277)
        seen = {"some": 0, "each": 0}
        for letters, many in ((0, 2), (1, 8), (2, 12), (3, 12), (4, 8), (5, 5)):
            for owners in all_owners(letters):
                sentences = [(owners, ()), (owners, ((),)), (owners, random_clauses(dice, letters, 4, 3))]
                sentences.extend([(owners, rich_sentence(dice, letters, 8)[1]) for _ in range(many)])
                for sentence in sentences:
                    who = plain_winner(sentence, ())
                    seen[who] += 1
                    paper = self.check(sentence, who)
                    self.assertIsNone(plain_judged(sentence, paper)[0])
                    self.assertLess(len(paper[1]), 10 * 2 ** letters)
                    self.check_plays(sentence, paper)
        self.assertGreater(min(seen.values()), 100)

    def check_plays(self, sentence, paper):
        party = {"no": "s", "yes": "e"}[paper[0]]
        for others in product((True, False), repeat=sentence[0].count(party)):
            self.assertEqual(result(sentence, followed(sentence, paper, others)), PARTY[paper[0]])

    def test_up_to_twelve_letters(self):
        dice = random.Random(281)
        for letters in range(6, 13):
            for many in (3, 8, 16, 30):
                for _ in range(4):
                    sentence = rich_sentence(dice, letters, many, 4)
                    paper = self.check(sentence, winner(sentence, ()))
                    self.check_plays(sentence, paper)

    def test_twelve_letters_with_many_clauses(self):
        seen = {}
        for sentence in hard_sentences():
            who = winner(sentence, ())
            seen[who] = True
            self.check(sentence, who)
        self.assertEqual(len(seen), 2)

    def test_calls(self):
        for sentence, who in ((("", ()), "some"), (("", ((),)), "each"), (("e", ((),)), "each"), (("s", ()), "some"),
                              (("ee", ((1, -2),)), "each"), (("ss", ((1, -2),)), "some"),
                              (("es", ((1, 2), (-1, -2))), "some"), (("se", ((1, 2), (-1, -2))), "each"),
                              (("eses", ((-1, 2), (-2, 3, 4), (-3, -4))), "some"), (("s" * 12, ((12,),)), "some")):
            check_call(self, decided, returned(who), sentence=sentence)
            check_call(self, find, outcome(lambda: find(sentence)), sentence=sentence)
            self.assertEqual(PARTY[find(sentence)[0]], who)
            self.assertIsNone(paper_error(sentence, find(sentence)))

    def test_too_many(self):
        for letters in (13, 14, 30, 60):
            for sentence in (("s" * letters, ()), ("e" * letters, ((),)), ("es" * 30, ((1,), (2,)))):
                check_call(self, find, raised(TooMany(12)), sentence=sentence)
                check_call(self, decided, raised(TooMany(12)), sentence=sentence)
                check_call(self, core, raised(TooMany(12)), sentence=sentence)
        for sentence in (("s" * 12, ()), ("e" * 12, ((),)), ("e" * 12, ((12,),))):
            self.check(sentence, winner(sentence, ()))


class CoreTest(unittest.TestCase):
    def check(self, sentence):
        if winner(sentence, ()) == "some":
            with self.assertRaises(Unfit):
                core(sentence)
            return None
        places = core(sentence)
        self.assertIs(type(places), tuple)
        self.assertEqual(places, tuple(sorted(set(places))))
        self.assertEqual(winner(self.alone(sentence, places), ()), "each")
        for place in places:
            rest = tuple([other for other in places if other != place])
            self.assertEqual(winner(self.alone(sentence, rest), ()), "some", (sentence, places, place))
        self.assertEqual(core(sentence), places)
        return places

    def alone(self, sentence, places):
        return less(sentence, tuple([place for place in range(len(sentence[1])) if place not in places]))

    def test_small_sentences(self):
        dice = random.Random(283)
        sizes = {}
        for letters in range(6):
            for owners in all_owners(letters):
                for many in (0, 3, 6, 12, 20):
                    places = self.check((owners, rich_sentence(dice, letters, many)[1]))
                    sizes[None if places is None else len(places)] = True
                self.check((owners, random_sentence(dice, letters, 5)[1]))
        self.assertLessEqual({None, 1, 2, 3, 4}, set(sizes))

    def test_twelve_letters(self):
        dice = random.Random(293)
        found = 0
        for _ in range(12):
            sentence = (random_owners(dice, 12), rich_sentence(dice, 12, 100, 4)[1])
            found += self.check(sentence) is not None
        for sentence in hard_sentences():
            if len(sentence[1]) < 60:
                found += self.check(sentence) is not None
        self.assertGreater(found, 10)

    def test_all_clauses_of_some_letters(self):
        clauses = tuple(product((1, -1), repeat=7))
        clauses = tuple([tuple([sign * (k + 1) for k, sign in enumerate(signs)]) for signs in clauses])
        self.assertEqual(core(("s" * 12, clauses)), tuple(range(128)))
        self.assertEqual(core(("s" * 12, ((12,),) + clauses + ((-12, 11),))), tuple(range(1, 129)))
        with self.assertRaises(Unfit):
            core(("s" * 12, clauses[1:]))
        self.assertEqual(len(core(("e" * 12, clauses))), 1)

    def test_calls(self):
        for sentence, places in ((("se", ((1, 2), (-1, -2))), (0, 1)), (("ee", ((1, -2),)), (0,)), (("", ((),)), (0,)),
                                 (("ss", ((1,), (1, 2), (-1,))), (0, 2)), (("s", ((1,), (-1,))), (0, 1)),
                                 (("sss", ((1, 2), (3,), (1, -2), (-1, 3), (-1,))), (0, 2, 4))):
            check_call(self, core, returned(places), sentence=sentence)
        more = ("se", ((1, 2), (1,), (-1, -2), (2,)))
        self.assertIn(core(more), ((0, 2), (1, 2), (3,)))
        for sentence in (("", ()), ("es", ((1, 2), (-1, -2))), ("s" * 12, ((1,),)), ("e" * 12, ())):
            check_call(self, core, raised(Unfit()), sentence=sentence)


if __name__ == "__main__":
    unittest.main()
