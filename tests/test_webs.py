import random
import unittest

from eachsome.errors import Unfit
from eachsome.webs import led, straight
from tests.helpers import check_call, raised, returned
from tests.making import random_sentence
from tests.plain_webs import chained, great_sentences, literals_in_order, plain_leads, plain_straight, two_sentence

CHAIN = ("ees", ((-1, 3), (2, -3)))


class WebTest(unittest.TestCase):
    def check(self, sentence):
        leads = plain_leads(sentence)
        for literal in literals_in_order(len(sentence[0])):
            self.assertEqual(straight(sentence, literal), plain_straight(sentence, literal), (sentence, literal))
            self.assertEqual(led(sentence, literal), leads[literal], (sentence, literal))
            for other in leads[literal]:
                self.assertIn(-literal, leads[-other])
        return max([len(found) for found in leads.values()] + [0])

    def test_every_literal_of_small_sentences(self):
        dice = random.Random(461)
        for _ in range(400):
            letters = dice.randint(0, 6)
            self.check(random_sentence(dice, letters, dice.randint(0, 10), 2))
            if letters:
                self.check(two_sentence(dice, letters, dice.randint(0, 8)))

    def test_great_sentences(self):
        longest = [self.check(sentence) for sentence in great_sentences(463, 12)]
        longest.extend([self.check(sentence) for _, sentence in chained(467, 8)])
        self.assertGreater(max(longest), 40)

    def test_calls(self):
        for sentence, literal, leads, led_to in (
            (CHAIN, 1, (3,), (1, 2, 3)), (CHAIN, -3, (-1,), (-1, -3)), (CHAIN, -2, (-3,), (-1, -2, -3)),
            (CHAIN, 2, (), (2,)), (("s", ((1,),)), -1, (1,), (1, -1)), (("s", ((1,),)), 1, (), (1,)),
            (("s", ((1,), (-1,))), 1, (-1,), (1, -1)), (("s", ((1,), (-1,))), -1, (1,), (1, -1)),
            (("e", ((), (-1,))), 1, (-1,), (1, -1)), (("ss", ((1, 2), (1, -2), (2,))), -1, (2, -2), (1, -1, 2, -2)),
            (("ss", ((1, 2), (-1, -2))), 1, (-2,), (1, -2)), (("ss", ((-1, 2), (1, -2))), 2, (1,), (1, 2)),
            (("sss", ((-1, 3), (-1, -2), (-1, 2))), 1, (2, -2, 3), (1, -1, 2, -2, 3)), (("ss", ()), 2, (), (2,)),
            (("e" * 60, ((-59, 60), (-60,))), 59, (60,), (59, -59, 60, -60)),
        ):
            check_call(self, straight, returned(leads), sentence=sentence, literal=literal)
            check_call(self, led, returned(led_to), sentence=sentence, literal=literal)

    def test_unfit(self):
        for sentence in (("sss", ((1, 2, 3),)), ("ese", ((1,), (-1, 2, -3))), ("e" * 60, (tuple(range(1, 61)), ()))):
            for literal in (1, -1, 3, -2):
                check_call(self, straight, raised(Unfit()), sentence=sentence, literal=literal)
                check_call(self, led, raised(Unfit()), sentence=sentence, literal=literal)


if __name__ == "__main__":
    unittest.main()
