import random
import unittest
from itertools import product

from eachsome.errors import Unfit
from eachsome.papers import paper_error
from eachsome.plays import result
from eachsome.replies import followed, reply, why
from tests.finding import rich_papers, rows_without_end, small_papers, wide_papers
from tests.helpers import check_call, raised, returned
from tests.making import all_plays
from tests.plain_replies import plain_followed, plain_told, plain_turn, speaking

COPY = ("es", ((1, 2), (-1, -2)))
GUESS = ("se", ((1, 2), (-1, -2)))
YES = ("yes", (("lot", (1, -2)), ("drop", 0), ("lot", (-1, 2)), ("drop", 2), ("meet", 1, 3)))
NO = ("no", (("clause", 0), ("drop", 0), ("clause", 1), ("drop", 2), ("meet", 1, 3)))
WINNERS = {"no": "each", "yes": "some"}


def others_many(sentence, paper):
    """How many letters the other party has."""
    return sentence[0].count({"no": "s", "yes": "e"}[paper[0]])


class WhyAndReplyTest(unittest.TestCase):
    def check(self, sentence, paper, play, spoken):
        if plain_turn(sentence, paper, play):
            place, answer = plain_told(sentence, paper, play, spoken)
            self.assertEqual(why(sentence, paper, play), place)
            self.assertEqual(reply(sentence, paper, play), answer)
            return place
        for function in (why, reply):
            with self.assertRaises(Unfit):
                function(sentence, paper, play)
        return "unfit"

    def check_plays(self, sentence, paper, plays):
        self.assertIsNone(paper_error(sentence, paper))
        spoken = speaking(sentence, paper)
        return [self.check(sentence, paper, play, spoken) for play in plays]

    def test_every_play_of_small_papers(self):
        seen = {}
        for source in (small_papers(211, 120), rich_papers(223, 160)):
            for _, sentence, paper in source:
                plays = all_plays(len(sentence[0]) - 1)
                for told in (paper, rows_without_end(sentence, paper)):
                    for place in self.check_plays(sentence, told, plays):
                        kind = place if type(place) is not int else "told"
                        seen[(paper[0], kind)] = seen.get((paper[0], kind), 0) + 1
        self.assertEqual(set(seen), set(product(("no", "yes"), (None, "unfit", "told"))))
        self.assertGreater(min(seen.values()), 300)

    def test_long_papers(self):
        later = 0
        for dice, sentence, paper in wide_papers(227, 10, 3000):
            self.assertGreater(len(paper[1]), 3000)
            letters = len(sentence[0])
            whole = [tuple([dice.choice((-1, 1)) * k for k in range(1, letters + 1)]) for _ in range(2)]
            plays = [play[:many] for play in whole for many in sorted(dice.sample(range(letters), min(letters, 20)))]
            places = self.check_plays(sentence, paper, plays)
            later += len([place for place in places if place not in ("unfit", None)])
        self.assertGreater(later, 30)

    def test_the_first_drop_that_fits(self):
        sentence = ("ess", ((1, 2), (-1, -2), (1, 3), (-1, -3)))
        steps = (("lot", (1, -2, -3)), ("drop", 0), ("lot", (-1, 2, 3)), ("drop", 2), ("meet", 1, 3))
        self.assertEqual([why(sentence, ("yes", steps), (first,)) for first in (1, -1)], [1, 3])
        ahead = (("lot", (-1, 2, 3)), ("drop", 0), ("lot", (-1, 2, 3)), ("drop", 2), ("drop", 0))
        moved = [(step[0], *[number + 5 for number in step[1:]]) if step[0] != "lot" else step for step in steps]
        paper = ("yes", ahead + tuple(moved))
        self.assertIsNone(paper_error(sentence, paper))
        self.assertEqual([why(sentence, paper, (first,)) for first in (1, -1)], [6, 1])
        self.assertEqual([why(sentence, paper, (1, -2)), why(sentence, paper, (-1, 2))], [6, 1])
        self.assertEqual([reply(sentence, paper, (first,)) for first in (1, -1)], [-2, 2])
        self.assertEqual([reply(sentence, paper, play) for play in ((1, -2), (-1, 2), (1, 2))], [-3, 3, -3])

    def test_two_drops_that_fit_tell_unlike_answers(self):
        sentence = ("ss", ((1, 2), (-1, -2)))
        for steps, answers, places in (
            ((("lot", (1, -2)), ("drop", 0), ("lot", (-1, 2)), ("drop", 2)), (1, -2, -2), (1, 1, 1)),
            ((("lot", (-1, 2)), ("drop", 0), ("lot", (1, -2)), ("drop", 2)), (-1, 2, 2), (1, 1, 1)),
        ):
            paper = ("yes", steps)
            self.assertIsNone(paper_error(sentence, paper))
            plays = ((), (1,), (-1,))
            self.assertEqual(tuple([reply(sentence, paper, play) for play in plays]), answers)
            self.assertEqual(tuple([why(sentence, paper, play) for play in plays]), places)
        each = ("ee", ((1, 2), (-1, -2)))
        paper = ("no", (("clause", 1), ("clause", 0), ("drop", 1), ("drop", 0)))
        self.assertEqual([reply(each, paper, play) for play in ((), (1,), (-1,))], [-1, -2, -2])
        self.assertEqual([why(each, paper, play) for play in ((), (1,), (-1,))], [2, 2, 2])

    def test_none_that_fits(self):
        for sentence, paper, play in (
            (("s", ()), ("yes", (("lot", ()),)), ()), (("e", ((),)), ("no", (("clause", 0),)), ()),
            (("ss", ((2,),)), ("yes", (("lot", (2,)), ("drop", 0))), ()),
            (("ese", ((1, 2), (1, -2))), ("no", (("clause", 0), ("clause", 1), ("meet", 0, 1), ("drop", 2))), (1, 2)),
            (COPY, ("yes", (("lot", (1, -2)), ("drop", 0), ("lot", (-1, 2)), ("drop", 2), ("meet", 3, 1))), (1,)),
        ):
            self.assertIsNone(paper_error(sentence, paper))
            place, answer = plain_told(sentence, paper, play)
            check_call(self, why, returned(place), sentence=sentence, paper=paper, play=play)
            check_call(self, reply, returned(answer), sentence=sentence, paper=paper, play=play)
        self.assertIsNone(why(("ss", ((2,),)), ("yes", (("lot", (2,)), ("drop", 0))), ()))
        self.assertEqual(reply(("ss", ((2,),)), ("yes", (("lot", (2,)), ("drop", 0))), ()), 1)

    def test_a_drop_of_several_letters_speaks_of_each(self):
        sentence = ("sesss", ((1,), (-3,), (4,), (-5,)))
        paper = ("yes", (("lot", (1, -3, 4, -5)), ("drop", 0)))
        self.assertIsNone(paper_error(sentence, paper))
        self.assertEqual([reply(sentence, paper, (1, 2, 3, 4)[:many]) for many in (0, 2, 3, 4)], [1, -3, 4, -5])
        self.assertEqual([why(sentence, paper, (1, 2, 3, 4)[:many]) for many in (0, 2, 3, 4)], [1, 1, 1, 1])

    def test_calls(self):
        for sentence, paper, play, place, answer in (
            (COPY, YES, (1,), 1, -2), (COPY, YES, (-1,), 3, 2), (GUESS, NO, (1,), 3, 2), (GUESS, NO, (-1,), 1, -2),
        ):
            check_call(self, why, returned(place), sentence=sentence, paper=paper, play=play)
            check_call(self, reply, returned(answer), sentence=sentence, paper=paper, play=play)
        for sentence, paper in ((COPY, YES), (GUESS, NO), (("es" * 30, ()), ("yes", (("lot", ()),)))):
            check_call(self, why, raised(Unfit()), sentence=sentence, paper=paper, play=())
            check_call(self, reply, raised(Unfit()), sentence=sentence, paper=paper, play=())
        sixty = ("es" * 30, ((1,),))
        check_call(self, reply, raised(Unfit()), sentence=sixty, paper=("no", (("clause", 0), ("drop", 0))),
                   play=tuple(range(1, 60)))


class FollowedTest(unittest.TestCase):
    def check(self, sentence, paper, others, plain=True):
        play = followed(sentence, paper, others)
        self.assertEqual(result(sentence, play), WINNERS[paper[0]], (sentence, paper, others))
        held = [k + 1 for k in range(len(play)) if plain_turn(sentence, paper, play[:k])]
        self.assertEqual([k > 0 for k in play if abs(k) not in held], list(others))
        if plain:
            self.assertEqual(play, plain_followed(sentence, paper, others))

    def test_all_ways_of_small_sentences(self):
        for source in (small_papers(229, 80), rich_papers(233, 120)):
            for _, sentence, paper in source:
                for others in product((True, False), repeat=others_many(sentence, paper)):
                    self.check(sentence, paper, others)
                    self.check(sentence, rows_without_end(sentence, paper), others, plain=False)

    def test_many_ways_of_greater_ones(self):
        for dice, sentence, paper in wide_papers(239, 6, 2000):
            for number in range(6):
                others = tuple([dice.random() < 0.5 for _ in range(others_many(sentence, paper))])
                self.check(sentence, paper, others, plain=number < 2)

    def test_twelve_letters(self):
        dice = random.Random(241)
        clauses = tuple([clause for k in (1, 3, 5, 7, 9, 11) for clause in ((k, k + 1), (-k, -k - 1))])
        for owners, side in (("es" * 6, "yes"), ("se" * 6, "no")):
            steps = []
            for clause in clauses[:2] if side == "no" else ():
                steps.extend([("clause", clauses.index(clause)), ("drop", len(steps))])
            if side == "no":
                steps.append(("meet", 1, 3))
                for _ in range(20):
                    self.check((owners, clauses), ("no", tuple(steps)), tuple([dice.random() < 0.5 for _ in range(6)]))
            else:
                paper = yes_paper_of_pairs(6)
                self.assertIsNone(paper_error((owners, clauses), paper))
                for others in product((True, False), repeat=6):
                    self.check((owners, clauses), paper, others, plain=False)

    def test_no_letters_of_one_party(self):
        lot = tuple(range(1, 61))
        sentence, paper = ("s" * 60, tuple([(k,) for k in lot])), ("yes", (("lot", lot), ("drop", 0)))
        check_call(self, followed, returned(lot), sentence=sentence, paper=paper, others=())
        sentence, paper = ("e" * 60, (lot,)), ("no", (("clause", 0), ("drop", 0)))
        check_call(self, followed, returned(tuple([-k for k in lot])), sentence=sentence, paper=paper, others=())
        choices = tuple([k % 3 == 0 for k in lot])
        whole = tuple([k if k % 3 == 0 else -k for k in lot])
        check_call(self, followed, returned(whole), sentence=("e" * 60, ()), paper=("yes", (("lot", ()),)), others=choices)
        check_call(self, followed, returned(whole), sentence=("s" * 60, ((),)), paper=("no", (("clause", 0),)),
                   others=choices)
        check_call(self, followed, returned(()), sentence=("", ()), paper=("yes", (("lot", ()),)), others=())

    def test_calls(self):
        for sentence, paper, choice, play in ((COPY, YES, True, (1, -2)), (COPY, YES, False, (-1, 2)),
                                              (GUESS, NO, True, (1, 2)), (GUESS, NO, False, (-1, -2))):
            check_call(self, followed, returned(play), sentence=sentence, paper=paper, others=(choice,))


def yes_paper_of_pairs(many):
    """A yes-paper of the sentence in which SOME has to set each letter contrary to EACH's ahead of it."""
    steps = []

    def tell(step):
        steps.append(step)
        return len(steps) - 1

    def below(row):
        letter = len(row) + 1
        if letter > 2 * many:
            return tell(("drop", tell(("lot", row))))
        one, other = below(row + (letter, -letter - 1)), below(row + (-letter, letter + 1))
        number = tell(("meet", one, other))
        return tell(("drop", number)) if row else number

    below(())
    return ("yes", tuple(steps))


if __name__ == "__main__":
    unittest.main()
