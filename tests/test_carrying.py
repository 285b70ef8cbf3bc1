import random
import unittest
from itertools import islice, product

from eachsome.carrying import answers_carried, carried
from eachsome.lessening import done_step, done_steps, lessened
from eachsome.meaning import winner
from eachsome.papers import paper_error
from eachsome.plays import result
from eachsome.replies import followed
from eachsome.search import find
from tests.finding import found_paper, random_steps, rich_sentence, rows_without_end, wider_lots
from tests.helpers import check_call, outcome
from tests.making import behind_others, filled_sentence, random_sentence
from tests.plain import plain_judged
from tests.plain_answers import all_answers, plain_wins, some_letters, winning_answers
from tests.plain_lessening import lessening_steps, many_literals

KNOT = ("ses", ((1, 2), (-1, 3), (3,), (-2, -3), (2, 3)))
TOLD = ("sees", ((1, -2), (-1, 3, 4), (4,)))
WINNERS = {"no": "each", "yes": "some"}
MAX_STEPS = 600000


def small_sentences(seed, many):
    dice = random.Random(seed)
    for number in range(many):
        letters = dice.randint(1, 6)
        if number % 4:
            yield dice, rich_sentence(dice, letters, dice.randint(2, 12))
        else:
            yield dice, random_sentence(dice, letters, dice.randint(0, 9), 3)


def random_lessening(dice, sentence):
    """Lessening steps as many as come, any of those that there are."""
    steps = []
    left = lessening_steps(sentence)
    while left and dice.random() < 0.85:
        steps.append(dice.choice(left))
        sentence = done_step(sentence, steps[-1])
        left = lessening_steps(sentence)
    return tuple(steps)


def papers_of(dice, sentence):
    """Papers of one sentence: found ones, such with steps that nothing needs, with rows () ahead of the end."""
    paper = found_paper(sentence)
    yield paper
    yield find(sentence)
    yield rows_without_end(sentence, paper)
    if paper[0] == "yes":
        paper = wider_lots(dice, sentence, paper)
        yield paper
    ahead, _ = random_steps(dice, sentence, paper, 12)
    yield behind_others(ahead, paper)
    yield behind_others(ahead, rows_without_end(sentence, paper))


def size(sentence):
    return len(sentence[1]) + many_literals(sentence)


class CarriedTest(unittest.TestCase):
    def check(self, sentence, steps, paper):
        found = carried(sentence, steps, paper)
        self.assertIsNone(paper_error(sentence, found), (sentence, steps, paper))
        self.assertIsNone(plain_judged(sentence, found)[0])
        self.assertEqual(found[0], paper[0])
        gone = size(sentence) - size(done_steps(sentence, steps))
        self.assertLessEqual(len(found[1]), len(paper[1]) + gone)
        return found

    def check_plays(self, sentence, paper):
        others = {"no": "s", "yes": "e"}[paper[0]]
        for choices in product((True, False), repeat=sentence[0].count(others)):
            self.assertEqual(result(sentence, followed(sentence, paper, choices)), WINNERS[paper[0]])

    def test_behind_each_kind_of_step(self):
        seen = {}
        for dice, sentence in small_sentences(353, 260):
            for step in lessening_steps(sentence):
                for paper in papers_of(dice, done_step(sentence, step)):
                    self.check(sentence, (step,), paper)
                    kind = sentence[0][abs(step[1]) - 1] if step[0] == "lone" else ""
                    seen[(paper[0], step[0] + kind)] = seen.get((paper[0], step[0] + kind), 0) + 1
        self.assertEqual(len(seen), 10)
        self.assertGreater(min(seen.values()), 30)

    def test_behind_several_steps(self):
        longest = {"no": 0, "yes": 0}
        for dice, sentence in small_sentences(359, 300):
            for steps in (random_lessening(dice, sentence), lessened(sentence)[1]):
                for paper in papers_of(dice, done_steps(sentence, steps)):
                    found = self.check(sentence, steps, paper)
                    longest[paper[0]] = max(longest[paper[0]], len(steps))
                self.check_plays(sentence, found)
        self.assertGreater(min(longest.values()), 6)

    def test_no_steps(self):
        for dice, sentence in small_sentences(367, 60):
            for paper in papers_of(dice, sentence):
                self.check_plays(sentence, self.check(sentence, (), paper))

    def test_great_sentences(self):
        dice = random.Random(373)
        seen = {}
        for number in range(16):
            most = dice.choice((3, 6, 60))
            owners, clauses = dice.choice(("es" * 30, "s" * 60, "s" * 30 + "e" * 30)), filled_sentence(dice, 60, 199, most)[1]
            sentence = (owners, tuple([clause for clause in clauses if clause]) + ((2,), (-2, 4), (-4, 6)))
            sentence = (owners, tuple(dict.fromkeys(sentence[1]))[-200:])
            if number % 2:
                sentence = (owners, tuple([clause for clause in sentence[1] if max(clause) > 0]))
            found, steps = lessened(sentence)
            if () in found[1]:
                paper = ("no", (("clause", found[1].index(())),))
            elif all([max(clause) > 0 for clause in found[1]]):
                paper = yes_paper_of_positives(found)
                if paper is None:
                    continue
            else:
                continue
            back = self.check(sentence, steps, paper)
            self.assertLessEqual(len(back[1]), len(paper[1]) + 200 + 200 * 60)
            seen[(back[0], len(steps) > 10)] = True
            for _ in range(5):
                many = sentence[0].count({"no": "s", "yes": "e"}[back[0]])
                play = followed(sentence, back, tuple([dice.random() < 0.5 for _ in range(many)]))
                self.assertEqual(result(sentence, play), WINNERS[back[0]])
        self.assertLessEqual({("no", True), ("yes", True)}, set(seen))

    def test_long_chains(self):
        chain = ((1,),) + tuple([(-k, k + 1) for k in range(1, 60)])
        for clauses, paper in ((chain, ("yes", (("lot", ()),))), (chain + ((-60,),), ("no", (("clause", 0),)))):
            sentence = ("s" * 60, clauses)
            self.assertEqual(len(lessened(sentence)[1]), 60)
            back = self.check(sentence, lessened(sentence)[1], paper)
            self.assertEqual(result(sentence, followed(sentence, back, (True,) * 60 if paper[0] == "no" else ())),
                             WINNERS[paper[0]])

    def test_literals_of_each_at_the_end(self):
        sentence = ("ees", ((1, 2, 3), (1, 2, -3)))
        steps = (("lone", 1), ("lone", 2), ("unit", 0))
        back = self.check(sentence, steps, ("no", (("clause", 0),)))
        self.assertEqual(back, ("no", (("clause", 0), ("clause", 1), ("meet", 1, 0), ("drop", 2))))

    def test_the_contrary_in_a_lot(self):
        sentence = ("ss", ((1, 2), (1,)))
        for lot in ((-1, 2), (1,), (-1,), (), (2,)):
            paper = ("yes", (("lot", lot), ("drop", 0)) if lot else (("lot", lot),))
            self.check(sentence, (("unit", 1),), paper)
            self.check(sentence, (("lone", 1),), paper)

    def test_many_steps(self):
        sentence = ("ses", ((1, 2), (-1, 3), (3,), (-2, -3), (2, 3)))
        steps = lessened(sentence)[1]
        paper = ("no", (("clause", 0),) * (MAX_STEPS - 20000))
        self.assertLess(len(self.check(sentence, steps, paper)[1]), MAX_STEPS)

    def test_calls(self):
        for sentence, steps, paper in (
            (KNOT, lessened(KNOT)[1], ("no", (("clause", 0),))), (TOLD, lessened(TOLD)[1], ("yes", (("lot", ()),))),
            (("s", ((1,),)), (), ("yes", (("lot", (1,)), ("drop", 0)))), (("", ((),)), (), ("no", (("clause", 0),))),
            (("s", ((1,),)), (("lone", 1),), ("yes", (("lot", (-1,)), ("drop", 0)))),
            (("e", ((1,),)), (("lone", 1),), ("no", (("clause", 0),))),
        ):
            check_call(self, carried, outcome(lambda: carried(sentence, steps, paper)),
                       sentence=sentence, steps=steps, paper=paper)
            self.check_plays(sentence, self.check(sentence, steps, paper))


def yes_paper_of_positives(sentence):
    """A yes-paper by which SOME sets all to yes, None if some clause has no positive literal of SOME's."""
    lot = tuple([k + 1 for k, owner in enumerate(sentence[0]) if owner == "s"])
    if not all([set(clause) & set(lot) for clause in sentence[1]]):
        return None
    return ("yes", (("lot", lot), ("drop", 0)))


class AnswersCarriedTest(unittest.TestCase):
    def check(self, sentence, steps, answers):
        found = answers_carried(sentence, steps, answers)
        self.assertEqual([pair[0] for pair in found], some_letters(sentence[0]))
        for letter, answer in found:
            self.assertIn(answer, all_answers(sentence[0], letter))
        self.assertTrue(plain_wins(sentence, found), (sentence, steps, answers))

    def test_behind_each_kind_of_step_and_several(self):
        seen = {}
        for dice, (owners, clauses) in small_sentences(379, 400):
            sentence = (owners[:5], tuple([clause for clause in clauses if not set(clause) & {6, -6}]))
            if winner(sentence, ()) == "some":
                told = [(step,) for step in lessening_steps(sentence)]
                told.extend([random_lessening(dice, sentence), lessened(sentence)[1]])
                for steps in told:
                    for answers in islice(winning_answers(done_steps(sentence, steps)), 4):
                        self.check(sentence, steps, answers)
                        kind = steps[0][0] if len(steps) == 1 else min(len(steps), 4)
                        seen[kind] = seen.get(kind, 0) + 1
        self.assertEqual(set(seen), {"drop", "unit", "lone", "covered", 0, 2, 3, 4})
        self.assertGreater(min(seen.values()), 20)

    def test_letters_that_come_to_stand_in_no_clause(self):
        sentence = ("ess", ((1, 2), (2, 3), (1, -3)))
        for answers in product(all_answers("ess", 2), all_answers("ess", 3)):
            self.check(sentence, (("lone", 2), ("lone", 1), ("unit", 0)), ((2, answers[0]), (3, answers[1])))

    def test_calls(self):
        for sentence, steps, answers, expected in (
            (TOLD, lessened(TOLD)[1], ((1, ("no",)), (4, ("no",))), ((1, ("all", ())), (4, ("all", ())))),
            (("es", ((-1, 2),)), (), ((2, ("all", (1,))),), ((2, ("all", (1,))),)),
            (("s", ((-1,),)), (("unit", 0),), ((1, ("all", ())),), ((1, ("no",)),)),
            (("s", ((-1,),)), (("lone", -1),), ((1, ("all", ())),), ((1, ("no",)),)),
            (("ss", ((1, 2),)), (("lone", 1),), ((1, ("no",)), (2, ("no",))), ((1, ("all", ())), (2, ("no",)))),
            (("", ()), (), (), ()),
        ):
            self.assertTrue(plain_wins(sentence, expected))
            expected = outcome(lambda: answers_carried(sentence, steps, answers))
            check_call(self, answers_carried, expected, sentence=sentence, steps=steps, answers=answers)
            self.check(sentence, steps, answers)
        self.assertEqual(answers_carried(TOLD, lessened(TOLD)[1], ((1, ("no",)), (4, ("no",)))),
                         ((1, ("all", ())), (4, ("all", ()))))


if __name__ == "__main__":
    unittest.main()
