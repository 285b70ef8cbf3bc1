import random
import unittest
from itertools import islice

from eachsome.answers import answers_error
from eachsome.lessening import lessened
from eachsome.meaning import winner
from eachsome.papers import paper_error
from eachsome.plays import result
from eachsome.replies import followed
from eachsome.sentences import sentence_error
from eachsome.squeezing import answers_unsqueezed, squeezed, unsqueezed
from tests.finding import found_paper, rich_sentence, rows_without_end
from tests.helpers import check_call, returned
from tests.making import filled_sentence, random_owners
from tests.plain_answers import plain_answers_error, plain_wins, some_letters, winning_answers

FAR = ("eseses", ((1, 4), (-1, -4)))
YES = ("yes", (("lot", (1, -2)), ("drop", 0), ("lot", (-1, 2)), ("drop", 2), ("meet", 1, 3)))


def plain_squeezed(sentence):
    owners, clauses = sentence
    letters = sorted({abs(literal) for clause in clauses for literal in clause})
    named = []
    for clause in clauses:
        named.append(tuple([(letters.index(abs(k)) + 1) * (1 if k > 0 else -1) for k in clause]))
    return ("".join([owners[letter - 1] for letter in letters]), tuple(named)), tuple(letters)


def spread_sentence(dice, sentence, letters):
    """The sentence with its letters, in their order, among so many."""
    chosen = sorted(dice.sample(range(1, letters + 1), len(sentence[0])))
    owners = list(random_owners(dice, letters))
    for old, new in enumerate(chosen):
        owners[new - 1] = sentence[0][old]
    clauses = [tuple([chosen[abs(k) - 1] * (1 if k > 0 else -1) for k in clause]) for clause in sentence[1]]
    return ("".join(owners), tuple(clauses))


def spread_sentences(seed, many, letters=None):
    dice = random.Random(seed)
    for _ in range(many):
        few = dice.randint(0, 5)
        small = rich_sentence(dice, few, dice.randint(0, 9))
        yield dice, spread_sentence(dice, small, letters or few + dice.randint(0, 4))


class SqueezedTest(unittest.TestCase):
    def check(self, sentence):
        found, letters = squeezed(sentence)
        self.assertEqual((found, letters), plain_squeezed(sentence))
        self.assertIsNone(sentence_error(found))
        self.assertEqual(squeezed(found), (found, tuple(range(1, len(letters) + 1))))

    def test_letters_that_stand_in_no_clause(self):
        for _, sentence in spread_sentences(383, 200):
            self.check(sentence)
            self.assertEqual(winner(squeezed(sentence)[0], ()), winner(sentence, ()))
        for _, sentence in spread_sentences(389, 40, 60):
            self.check(sentence)

    def test_great_sentences(self):
        dice = random.Random(397)
        for owners in ("es" * 30, "s" * 60, random_owners(dice, 60)):
            for most in (2, 60):
                sentence = (owners, filled_sentence(dice, 60, 200, most)[1])
                self.check(sentence)
                self.check(lessened(sentence)[0])

    def test_lessened_sentences_keep_who_wins(self):
        for _, sentence in spread_sentences(401, 200):
            self.assertEqual(winner(squeezed(lessened(sentence)[0])[0], ()), winner(sentence, ()))

    def test_calls(self):
        for sentence, expected in (
            (FAR, (("es", ((1, 2), (-1, -2))), (1, 4))), (("eses", ()), (("", ()), ())), (("", ()), (("", ()), ())),
            (("", ((),)), (("", ((),)), ())), (("eses", ((),)), (("", ((),)), ())),
            (("ess", ((), (-2,))), (("s", ((), (-1,))), (2,))), (("ess", ((1, 2),)), (("es", ((1, 2),)), (1, 2))),
            (("ess", ((2, -3),)), (("ss", ((1, -2),)), (2, 3))), (("ess", ((1, -3),)), (("es", ((1, -2),)), (1, 3))),
            (("ess", ((-3,), (1, 2))), (("ess", ((-3,), (1, 2))), (1, 2, 3))),
            (("es" * 30, ((-60,), (2,))), (("ss", ((-2,), (1,))), (2, 60))),
        ):
            check_call(self, squeezed, returned(expected), sentence=sentence)
            self.assertEqual(plain_squeezed(sentence), expected)


class UnsqueezedTest(unittest.TestCase):
    def check(self, sentence, paper):
        letters = plain_squeezed(sentence)[1]
        back = unsqueezed(sentence, paper)
        self.assertIsNone(paper_error(sentence, back))
        steps = []
        for step in paper[1]:
            if step[0] == "lot":
                step = ("lot", tuple([letters[abs(k) - 1] * (1 if k > 0 else -1) for k in step[1]]))
            steps.append(step)
        self.assertEqual(back, (paper[0], tuple(steps)))
        return back

    def test_papers_of_both_sides(self):
        seen = {"no": 0, "yes": 0}
        for source in (spread_sentences(409, 200), spread_sentences(419, 30, 60)):
            for dice, sentence in source:
                found = squeezed(sentence)[0]
                paper = found_paper(found)
                seen[paper[0]] += 1
                back = self.check(sentence, paper)
                self.check(sentence, rows_without_end(found, paper))
                many = sentence[0].count({"no": "s", "yes": "e"}[back[0]])
                play = followed(sentence, back, tuple([dice.random() < 0.5 for _ in range(many)]))
                self.assertEqual(result(sentence, play), {"no": "each", "yes": "some"}[back[0]])
        self.assertGreater(min(seen.values()), 50)

    def test_calls(self):
        back = ("yes", (("lot", (1, -4)), ("drop", 0), ("lot", (-1, 4)), ("drop", 2), ("meet", 1, 3)))
        check_call(self, unsqueezed, returned(back), sentence=FAR, paper=YES)
        paper = ("no", (("clause", 0), ("drop", 0), ("clause", 1), ("drop", 2), ("meet", 1, 3)))
        check_call(self, unsqueezed, returned(paper), sentence=("esees", ((2, 4), (-2, -4))), paper=paper)
        for sentence in (("es", ()), ("", ())):
            lot = ("yes", (("lot", ()),))
            check_call(self, unsqueezed, returned(lot), sentence=sentence, paper=lot)


class AnswersUnsqueezedTest(unittest.TestCase):
    def test_answers_that_win(self):
        found = 0
        for dice, sentence in spread_sentences(421, 300):
            small, letters = squeezed(sentence)
            for answers in islice(winning_answers(small), dice.randint(1, 40)):
                back = answers_unsqueezed(sentence, answers)
                self.assertTrue(plain_wins(sentence, back))
                if plain_answers_error(sentence, back) != "unfit":
                    self.assertIsNone(answers_error(sentence, back))
                self.assertEqual([pair[0] for pair in back], some_letters(sentence[0]))
                for letter, answer in back:
                    if letter not in letters:
                        self.assertEqual(answer, ("no",))
                    elif answer != ("no",):
                        told = dict(answers)[letters.index(letter) + 1][1]
                        self.assertEqual([letters[abs(k) - 1] * (1 if k > 0 else -1) for k in told], list(answer[1]))
                found += 1
        self.assertGreater(found, 150)

    def test_calls(self):
        for sentence, answers, expected in (
            (FAR, ((2, ("all", (-1,))),), ((2, ("no",)), (4, ("all", (-1,))), (6, ("no",)))),
            (("sss", ()), (), ((1, ("no",)), (2, ("no",)), (3, ("no",)))), (("ee", ()), (), ()), (("", ()), (), ()),
            (("sss", ((2,),)), ((1, ("all", ())),), ((1, ("no",)), (2, ("all", ())), (3, ("no",)))),
            (("sss", ((-2,),)), ((1, ("no",)),), ((1, ("no",)), (2, ("no",)), (3, ("no",)))),
            (("esees", ((3, 5), (-1, -4, 5))), ((4, ("all", (-1, 2, -3))),),
             ((2, ("no",)), (5, ("all", (-1, 3, -4))))),
        ):
            check_call(self, answers_unsqueezed, returned(expected), sentence=sentence, answers=answers)


if __name__ == "__main__":
    unittest.main()
