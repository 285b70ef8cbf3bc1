import random
import unittest

from eachsome.errors import Unfit
from eachsome.meaning import winner
from eachsome.papers import clauses_used, paper_error, rows_of, trimmed
from eachsome.sentences import less, sentence_error
from tests.finding import long_papers, small_papers
from tests.helpers import any_values, check_call, raised, returned
from tests.making import filled_sentence, more_clauses, random_clause
from tests.plain import plain_judged, plain_trimmed

GUESS = ("se", ((1, 2), (-1, -2)))
COPY = ("es", ((1, 2), (-1, -2)))
NO = ("no", (("clause", 0), ("drop", 0), ("clause", 1), ("drop", 2), ("meet", 1, 3)))
YES = ("yes", (("lot", (1, -2)), ("drop", 0), ("lot", (-1, 2)), ("drop", 2), ("meet", 1, 3)))
MAX_STEPS = 600000


class RightPapersTest(unittest.TestCase):
    def check(self, sentence, paper):
        error, rows = plain_judged(sentence, paper)
        self.assertIsNone(error)
        self.assertIsNone(sentence_error(sentence))
        self.assertIsNone(paper_error(sentence, paper))
        self.assertEqual(rows_of(sentence, paper), rows)
        self.assertEqual(rows[-1], ())

    def test_small_papers(self):
        for _, sentence, paper in small_papers(103, 400):
            self.check(sentence, paper)
            self.assertEqual(paper[0], "yes" if winner(sentence, ()) == "some" else "no")

    def test_long_papers(self):
        for _, sentence, paper in long_papers(107, 12, 4000):
            self.assertGreater(len(paper[1]), 4000)
            self.check(sentence, paper)

    def test_a_chain_through_sixty_letters(self):
        clauses = ((1,),) + tuple([(-k, k + 1) for k in range(1, 60)]) + ((-60,),)
        steps = [("clause", 0)]
        for place in range(1, 61):
            steps.extend([("clause", place), ("meet", len(steps) - 1, len(steps))])
        self.check(("s" * 60, clauses), ("no", tuple(steps)))
        self.assertEqual(paper_error(("e" * 60, clauses), ("no", tuple(steps))), (2, "clash"))
        whole = tuple(range(1, 61))
        self.check(("s" * 60, tuple([(k,) for k in whole])), ("yes", (("lot", whole), ("drop", 0))))
        self.check(("e" * 60, (whole,)), ("no", (("clause", 0), ("drop", 0))))

    def test_two_hundred_clauses(self):
        dice = random.Random(109)
        _, clauses = filled_sentence(dice, 60, 200, 60)
        clauses = tuple([clause for clause in clauses if clause])
        lot = tuple([k if dice.random() < 0.5 else -k for k in range(1, 61)])
        hit = tuple([clause for clause in clauses if set(clause) & set(lot)])
        self.assertGreater(len(hit), 150)
        self.check(("s" * 60, hit), ("yes", (("lot", lot), ("drop", 0))))
        self.assertEqual(paper_error(("s" * 60, hit + ((-lot[7],),)), ("yes", (("lot", lot), ("drop", 0)))), (0, "lot"))
        some = ("s" * 60, ((1,),) + clauses[:199])
        self.assertEqual(paper_error(some, ("no", (("clause", 199),))), "end")
        self.assertEqual(paper_error(some, ("no", (("clause", 200),))), (0, "clause"))

    def test_rows_without_literals_ahead_of_the_end(self):
        sentence = ("s", ((), (1,)))
        self.check(sentence, ("no", (("clause", 0), ("clause", 0))))
        self.check(sentence, ("no", (("clause", 0), ("clause", 1), ("clause", 0))))
        self.assertEqual(paper_error(sentence, ("no", (("clause", 0), ("clause", 1)))), "end")
        self.assertEqual(paper_error(sentence, ("no", (("clause", 0), ("drop", 0)))), (1, "idle"))
        self.assertEqual(paper_error(sentence, ("no", (("clause", 0), ("meet", 0, 0)))), (1, "clash"))

    def test_most_steps(self):
        sentence = ("e", ((),))
        steps = (("clause", 0),) * MAX_STEPS
        self.assertIsNone(paper_error(sentence, ("no", steps)))
        self.assertEqual(paper_error(sentence, ("no", steps + (("clause", 0),))), "form")
        self.assertEqual(paper_error(sentence, ("no", steps[:-1] + (("drop", MAX_STEPS - 1),))), (MAX_STEPS - 1, "row"))
        self.assertEqual(rows_of(sentence, ("no", steps)), ((),) * MAX_STEPS)
        self.assertEqual(trimmed(("no", steps)), ("no", steps[:1]))
        self.assertEqual(clauses_used(("no", steps)), (0,))

    def test_what_stays_a_paper(self):
        for dice, sentence, paper in small_papers(113, 200):
            longer = sentence[0] + dice.choice("es")
            self.check((longer, sentence[1]), paper)
            if paper[0] == "no":
                self.check(more_clauses(dice, sentence, 1), paper)
                used = clauses_used(paper)
                others = tuple([place for place in range(len(sentence[1])) if place not in used])
                steps = [("clause", used.index(step[1])) if step[0] == "clause" else step for step in paper[1]]
                self.check(less(sentence, others), ("no", tuple(steps)))
            else:
                self.check(less(sentence, (dice.randrange(len(sentence[1])),)), paper)


class WrongPapersTest(unittest.TestCase):
    def check(self, sentence, value, expected):
        self.assertEqual(plain_judged(sentence, value)[0], expected)
        check_call(self, paper_error, returned(expected), sentence=sentence, value=value)

    def test_form(self):
        for value in (("no", ()), ("yes", ()), ("maybe", (("clause", 0),)), ["no", (("clause", 0),)], None, (), "no",
                      ("no", [("clause", 0)]), ("no", None), ("no",), ("no", (("clause", 0),), ()), (None, (None,)),
                      (True, (None,)), (["no"], (None,)), ({}, (None,)), ("", (None,)), ("NO", (None,)), {"no": ()},
                      ("no", "c0"), ("no", {"clause": 0}), (("no",), (None,)), ("n", (None,)), ("no ", (None,))):
            with self.subTest(value=value):
                self.check(GUESS, value, "form")

    def test_any_values(self):
        for value in any_values():
            with self.subTest(value=repr(value)[:60]):
                error = paper_error(GUESS, value)
                self.assertIsNotNone(error)
                self.check(GUESS, value, error)
                for side in ("no", "yes"):
                    self.check(GUESS, (side, (value,)), (0, "step"))
                    for word in ("clause", "lot", "drop", "meet"):
                        if not isinstance(value, int) or isinstance(value, bool):
                            step = paper_error(GUESS, (side, ((word, value),)))
                            self.check(GUESS, (side, ((word, value),)), step)
                            self.check(GUESS, (side, ((word, 0, value),)), (0, "step"))
                    self.check(GUESS, (side, ((value, 0),)), (0, "step"))

    def test_step(self):
        for steps in ((("lot", (1,)),), (("clause", True),), (("clause",),), (("clause", 0, 0),), (("clause", None),),
                      (["clause", 0],), (("clause", (0,)),), (("clause", "0"),), ("clause",), (None,), ((),), (0,),
                      (("drop",),), (("drop", False),), (("drop", 0, 0),), (("drop", [0]),), (["drop", 0],),
                      (("meet", 0),), (("meet", 0, True),), (("meet", False, 0),), (("meet", 0, None),),
                      (("meet", 0, 0, 0),), (["meet", 0, 0],), (("meet", (0, 0)),), (("go", 0),), ((None, 0),),
                      (([], 0),), (({}, 0),), ((("drop",), 0),), (("Drop", 0),), (("", 0),), (("meets", 0, 0),)):
            with self.subTest(steps=steps):
                self.check(GUESS, ("no", steps), (0, "step"))
                self.check(GUESS, ("no", NO[1] + steps), (5, "step"))
        for row in ((2, 1), (1, 1), (1, -1), (3,), (-3,), (0,), (True,), [1], 1, None, "1", (1, True), ("1",), {}, {1: 2}):
            with self.subTest(row=row):
                self.check(GUESS, ("yes", (("lot", row),)), (0, "step"))
                self.check(GUESS, ("yes", YES[1] + (("lot", row),)), plain_judged(GUESS, YES)[0])
                self.check(COPY, ("yes", YES[1] + (("lot", row),)), (5, "step"))
        for steps in ((("clause", 0),), (("clause", 9),), (("lot",),), (("lot", (1,), (2,)),), (["lot", (1,)],)):
            with self.subTest(steps=steps):
                self.check(GUESS, ("yes", steps), (0, "step"))

    def test_row(self):
        for place, step in ((0, ("drop", 0)), (0, ("drop", -1)), (0, ("meet", 0, 0)), (1, ("drop", 1)), (1, ("drop", -1)),
                            (1, ("drop", 2)), (1, ("meet", 0, 1)), (1, ("meet", 1, 0)), (1, ("meet", 0, -1)),
                            (1, ("meet", -1, 0)), (2, ("meet", 0, 10 ** 399)), (2, ("drop", -(10 ** 399))),
                            (5, ("drop", 5)), (5, ("meet", 4, 5)), (5, ("meet", 5, 4)), (5, ("drop", -5))):
            with self.subTest(step=step):
                self.check(GUESS, ("no", NO[1][:place] + (step,)), (place, "row"))
                self.check(COPY, ("yes", YES[1][:place] + (step, None)), (place, "row"))

    def test_clause_and_lot(self):
        for place in (2, -1, 199, 10 ** 399, -(10 ** 399)):
            self.check(GUESS, ("no", (("clause", 0), ("clause", place), None)), (1, "clause"))
        self.check(("e", ()), ("no", (("clause", 0),)), (0, "clause"))
        for row in ((), (1,), (2,), (1, 2), (-1,), (-1, -2)):
            self.check(COPY, ("yes", (("lot", row), None)), (0, "lot"))
        self.check(("e", ((),)), ("yes", (("lot", (1,)),)), (0, "lot"))
        self.check(("e", ()), ("yes", (("lot", (1,)),)), "end")
        self.check(("e", ()), ("yes", (("lot", ()),)), None)

    def test_idle_and_clash(self):
        self.check(COPY, NO, (1, "idle"))
        self.check(GUESS, YES, (1, "idle"))
        self.check(GUESS, ("no", NO[1][:2] + (("drop", 1), None)), (2, "idle"))
        self.check(GUESS, ("no", (("clause", 0), ("clause", 1), ("meet", 0, 1))), (2, "clash"))
        self.check(GUESS, ("no", NO[1] + (("meet", 0, 0),)), (5, "clash"))
        self.check(GUESS, ("no", NO[1] + (("meet", 0, 1),)), (5, "clash"))
        each = ("ee", ((1,), (-1,)))
        self.check(each, ("no", (("clause", 0), ("clause", 1), ("meet", 0, 1))), (2, "clash"))
        self.check(("se", each[1]), ("no", (("clause", 0), ("clause", 1), ("meet", 0, 1))), None)
        some = ("s", ())
        self.check(some, ("yes", (("lot", (1,)), ("lot", (-1,)), ("meet", 0, 1))), (2, "clash"))
        self.check(("e", ()), ("yes", (("lot", (1,)), ("lot", (-1,)), ("meet", 0, 1))), None)

    def test_end(self):
        for many in range(1, 5):
            self.check(GUESS, ("no", NO[1][:many]), "end")
            self.check(COPY, ("yes", YES[1][:many]), "end")
        self.check(GUESS, ("no", NO[1] + (("clause", 0),)), "end")

    def test_changed_papers(self):
        dice = random.Random(127)
        seen = {}
        for _, sentence, paper in small_papers(131, 240):
            for _ in range(25):
                value = changed(dice, sentence, paper)
                expected = plain_judged(sentence, value)[0]
                seen[expected[1] if type(expected) is tuple else expected] = True
                self.assertEqual(repr(paper_error(sentence, value)), repr(expected), (sentence, value))
        self.assertEqual(set(seen), {None, "form", "end", "step", "row", "clause", "lot", "idle", "clash"})

    def test_changed_long_papers(self):
        dice = random.Random(137)
        for _, sentence, paper in long_papers(139, 6, 1500):
            for _ in range(6):
                value = changed(dice, sentence, paper)
                self.assertEqual(paper_error(sentence, value), plain_judged(sentence, value)[0])

    def test_papers_of_the_other_side_are_none(self):
        for _, sentence, paper in small_papers(149, 60):
            side = {"no": "yes", "yes": "no"}[paper[0]]
            self.assertIsNotNone(paper_error(sentence, (side, paper[1])))


def changed(dice, sentence, paper):
    """The paper with a step left out, told twice, exchanged, or with a part of it exchanged."""
    side, steps = paper
    place = dice.randrange(len(steps))
    step = steps[place]
    odd = dice.choice((None, True, -1, 0, 1, 2, place, place - 1, place + 1, 10 ** 30, (), (1,), [0], "drop"))
    numbers = [dice.randrange(-1, place + 2), dice.randrange(-1, place + 2)]
    others = (
        (), (step, step), (list(step),), (odd,), ((step[0], odd),), ((step[0], 0, odd),), (("drop", numbers[0]),),
        (("meet", *numbers),), (("clause", dice.randrange(-1, len(sentence[1]) + 1)),), (("meet", *numbers[::-1]),),
        (("lot", random_clause(dice, len(sentence[0]), 6)),), (("lot", random_clause(dice, len(sentence[0]) + 1, 6)),),
    )
    return (side, steps[:place] + dice.choice(others) + steps[place + 1:])


class RowsOfTest(unittest.TestCase):
    def test_calls(self):
        check_call(self, rows_of, returned(((1, 2), (1,), (-1, -2), (-1,), ())), sentence=GUESS, paper=NO)
        check_call(self, rows_of, returned(((1, -2), (1,), (-1, 2), (-1,), ())), sentence=COPY, paper=YES)
        check_call(self, rows_of, returned(((),)), sentence=("", ()), paper=("yes", (("lot", ()),)))


class TrimmedTest(unittest.TestCase):
    def check(self, sentence, paper):
        found = trimmed(paper)
        self.assertEqual(found, plain_trimmed(paper))
        self.assertIsNone(paper_error(sentence, found))
        self.assertEqual(trimmed(found), found)
        elder = iter(rows_of(sentence, paper))
        self.assertTrue(all(row in elder for row in rows_of(sentence, found)))

    def test_small_papers(self):
        for _, sentence, paper in small_papers(151, 300):
            self.check(sentence, paper)

    def test_long_papers(self):
        for _, sentence, paper in long_papers(157, 8, 3000):
            self.check(sentence, paper)
            side, steps = paper
            doubled = tuple([step for step in steps for _ in "12"])
            doubled = tuple([(step[0], *[2 * number + 1 for number in step[1:]]) if step[0] in ("drop", "meet") else step
                             for step in doubled])
            self.check(sentence, (side, doubled))
            self.assertEqual(trimmed((side, doubled)), trimmed(paper))

    def test_steps_that_are_the_same_stay(self):
        paper = ("no", (("clause", 1), ("clause", 0), ("clause", 1), ("drop", 1), ("drop", 2), ("drop", 0),
                        ("meet", 4, 3), ("clause", 0), ("meet", 3, 5)))
        self.check(GUESS, paper)
        self.assertEqual(trimmed(paper), ("no", (("clause", 1), ("clause", 0), ("drop", 1), ("drop", 0), ("meet", 2, 3))))
        twice = ("no", (("clause", 0), ("clause", 0), ("drop", 0), ("drop", 1), ("clause", 1), ("drop", 4),
                        ("meet", 2, 5)))
        self.check(GUESS, twice)
        self.assertEqual(trimmed(twice)[1][:2], (("clause", 0), ("drop", 0)))
        both = (("s" * 3), ((1, 2), (1, -2), (-1, 3), (-3,), (-1,)))
        steps = (("clause", 0), ("clause", 1), ("meet", 0, 1), ("clause", 2), ("clause", 2), ("meet", 2, 4),
                 ("clause", 3), ("meet", 5, 6))
        self.check(both, ("no", steps))
        self.assertEqual(len(trimmed(("no", steps))[1]), 7)

    def test_a_row_that_is_used_twice(self):
        sentence = ("sss", ((1, 2), (-1, 3), (-2, 3), (-3,)))
        paper = ("no", (("clause", 3), ("clause", 1), ("meet", 0, 1), ("clause", 2), ("meet", 0, 3), ("clause", 0),
                        ("clause", 0), ("meet", 2, 6), ("meet", 7, 4)))
        self.check(sentence, paper)
        self.assertEqual(trimmed(paper)[1], (
            ("clause", 3), ("clause", 1), ("meet", 0, 1), ("clause", 2), ("meet", 0, 3), ("clause", 0),
            ("meet", 2, 5), ("meet", 6, 4)))

    def test_calls(self):
        check_call(self, trimmed, returned(NO), paper=NO)
        check_call(self, trimmed, returned(YES), paper=YES)
        lots = ("yes", (("lot", (1,)), ("lot", ())))
        check_call(self, trimmed, returned(("yes", (("lot", ()),))), paper=lots)


class ClausesUsedTest(unittest.TestCase):
    def test_places(self):
        for _, _, paper in small_papers(163, 200):
            if paper[0] == "yes":
                with self.assertRaises(Unfit):
                    clauses_used(paper)
            else:
                places = [place for place in range(200) if ("clause", place) in paper[1]]
                self.assertEqual(clauses_used(paper), tuple(places))

    def test_calls(self):
        for steps, expected in ((NO[1], (0, 1)), ((("clause", 7),), (7,)),
                                ((("clause", 9), ("clause", 10), ("clause", 9), ("clause", 199), ("clause", 0),
                                  ("drop", 3), ("meet", 1, 2)), (0, 9, 10, 199)),
                                ((("clause", 16), ("clause", 100), ("clause", 8), ("clause", 1)), (1, 8, 16, 100))):
            check_call(self, clauses_used, returned(expected), paper=("no", steps))
        check_call(self, clauses_used, raised(Unfit()), paper=YES)
        check_call(self, clauses_used, raised(Unfit()), paper=("yes", (("lot", ()),)))


if __name__ == "__main__":
    unittest.main()
