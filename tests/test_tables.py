import random
import unittest

from eachsome.errors import Unfit
from eachsome.replies import reply
from eachsome.tables import table_of, table_reply
from tests.finding import rich_papers, rows_without_end, small_papers, wide_papers
from tests.helpers import check_call, raised, returned
from tests.making import all_plays
from tests.plain import holder_letters
from tests.plain_replies import plain_turn, speaking

COPY = ("es", ((1, 2), (-1, -2)))
GUESS = ("se", ((1, 2), (-1, -2)))
YES = ("yes", (("lot", (1, -2)), ("drop", 0), ("lot", (-1, 2)), ("drop", 2), ("meet", 1, 3)))
NO = ("no", (("clause", 0), ("drop", 0), ("clause", 1), ("drop", 2), ("meet", 1, 3)))


def plain_table(sentence, paper):
    side = paper[0]
    spoken = speaking(sentence, paper)
    table = []
    for letter in sorted(holder_letters(sentence[0], side)):
        rules = []
        for _, ahead, behind in spoken:
            for literal in (letter, -letter):
                if literal in ahead and literal not in behind:
                    rules.append((tuple(behind), literal if side == "yes" else -literal))
        table.append((letter, side, tuple(rules)))
    return tuple(table)


class TableTest(unittest.TestCase):
    def check(self, sentence, paper, plays):
        table = table_of(sentence, paper)
        self.assertEqual(table, plain_table(sentence, paper))
        for play in plays:
            if plain_turn(sentence, paper, play):
                self.assertEqual(table_reply(table, play), reply(sentence, paper, play))
            else:
                with self.assertRaises(Unfit):
                    table_reply(table, play)
        return table

    def test_every_play_of_small_papers(self):
        empty = several = 0
        for source in (small_papers(251, 100), rich_papers(257, 160)):
            for _, sentence, paper in source:
                table = self.check(sentence, paper, all_plays(len(sentence[0]) - 1))
                empty += len([rules for _, _, rules in table if not rules])
                several += len([rules for _, _, rules in table if len(rules) > 1])
                self.check(sentence, rows_without_end(sentence, paper), ())
        self.assertGreater(empty, 100)
        self.assertGreater(several, 50)

    def test_long_papers(self):
        for dice, sentence, paper in wide_papers(263, 5, 2000):
            letters = len(sentence[0])
            whole = tuple([dice.choice((-1, 1)) * k for k in range(1, letters + 1)])
            self.check(sentence, paper, [whole[:many] for many in sorted(dice.sample(range(letters), 6))])

    def test_a_drop_of_several_literals(self):
        sentence = ("sesss", ((1,), (-3,), (4,), (-5,)))
        paper = ("yes", (("lot", (1, -3, 4, -5)), ("drop", 0)))
        rows = tuple([(k, "yes", (((), literal),)) for k, literal in ((1, 1), (3, -3), (4, 4), (5, -5))])
        check_call(self, table_of, returned(rows), sentence=sentence, paper=paper)
        each = ("esee", ((2, 3, -4), (-1, -2)))
        steps = (("clause", 0), ("drop", 0), ("clause", 1), ("meet", 1, 2), ("drop", 3))
        self.check(each, ("no", steps), all_plays(3))
        rows = ((1, "no", (((), 1),)), (3, "no", (((2,), -3),)), (4, "no", (((2,), 4),)))
        check_call(self, table_of, returned(rows), sentence=each, paper=("no", steps))

    def test_the_first_rule_that_fits(self):
        table = ((2, "yes", (((1,), -2), ((), 2), ((), -2))), (3, "yes", (((1, -2), -3), ((-1,), -3))), (4, "yes", ()))
        for play, answer in (((1,), -2), ((-1,), 2), ((1, -2), -3), ((1, 2), 3), ((-1, 2), -3), ((1, 2, 3), 4)):
            check_call(self, table_reply, returned(answer), table=table, play=play)
        for play in ((), (1, 2, 3, 4)):
            check_call(self, table_reply, raised(Unfit()), table=table, play=play)
        table = ((2, "no", (((1,), -2), ((), 2))), (3, "no", (((1, -2), -3), ((-1,), -3))))
        for play, answer in (((1,), 2), ((-1,), -2), ((-1, 2), -3), ((1, 2), -3), ((-1, -2), 3)):
            check_call(self, table_reply, returned(answer), table=table, play=play)

    def test_no_letters_of_the_holder(self):
        for sentence, paper in ((("e" * 60, ()), ("yes", (("lot", ()),))), (("s" * 60, ((),)), ("no", (("clause", 0),))),
                                (("", ()), ("yes", (("lot", ()),)))):
            check_call(self, table_of, returned(()), sentence=sentence, paper=paper)
        check_call(self, table_reply, raised(Unfit()), table=(), play=(1, 2))

    def test_letters_that_no_drop_speaks_of(self):
        rows = tuple([(k, "yes", ()) for k in range(1, 61)])
        check_call(self, table_of, returned(rows), sentence=("s" * 60, ()), paper=("yes", (("lot", ()),)))
        dice = random.Random(269)
        play = tuple([dice.choice((-1, 1)) * k for k in range(1, 60)])
        for many in (0, 1, 30, 59):
            check_call(self, table_reply, returned(many + 1), table=rows, play=play[:many])

    def test_calls(self):
        rows = (((1,), -2), ((-1,), 2))
        check_call(self, table_of, returned(((2, "yes", rows),)), sentence=COPY, paper=YES)
        check_call(self, table_of, returned(((2, "no", rows),)), sentence=GUESS, paper=NO)
        for side, play, answer in (("yes", (1,), -2), ("yes", (-1,), 2), ("no", (1,), 2), ("no", (-1,), -2)):
            check_call(self, table_reply, returned(answer), table=((2, side, rows),), play=play)


if __name__ == "__main__":
    unittest.main()
