import random
import unittest

from eachsome.errors import TooMany
from eachsome.meaning import good_moves, trees, winner
from tests.helpers import check_call, raised, returned
from tests.making import all_owners, all_plays, filled_sentence, random_clauses, random_sentence
from tests.plain import plain_good_moves, plain_state, plain_trees, plain_winner, summed_trees


def small_sentences(seed, letters, many):
    """For each owners of so many letters some sentences, those without clauses and with () among them."""
    dice = random.Random(seed)
    for owners in all_owners(letters):
        yield (owners, ())
        yield (owners, ((),) + tuple([clause for clause in random_clauses(dice, letters, 2, 2) if clause]))
        for _ in range(many):
            clauses = random_clauses(dice, letters, dice.randint(1, 5), 3)
            yield (owners, tuple([clause for clause in clauses if clause]))


class WinnerTest(unittest.TestCase):
    def test_every_play_of_small_sentences(self):
        seen = set()
        for letters, many in ((0, 1), (1, 6), (2, 10), (3, 12), (4, 8), (5, 3)):
            for sentence in small_sentences(61 + letters, letters, many):
                for play in all_plays(letters):
                    expected = plain_winner(sentence, play)
                    seen.add((expected, len(play)))
                    self.assertEqual(winner(sentence, play), expected, (sentence, play))
        self.assertEqual(len(seen), 12)

    def test_calls(self):
        for sentence, play, expected in (
            (("", ()), (), "some"), (("", ((),)), (), "each"), (("es", ((-1, 2), (1, -2))), (), "some"),
            (("se", ((-1, 2), (1, -2))), (), "each"), (("es", ((-1, 2), (1, -2))), (1, -2), "each"),
            (("s", ((1,), (-1,))), (), "each"), (("e", ((1,),)), (1,), "some"), (("e", ((1,),)), (), "each"),
            (("s", ((1,),)), (), "some"), (("ss", ((),)), (1,), "each"), (("ee", ()), (), "some"),
        ):
            check_call(self, winner, returned(expected), sentence=sentence, play=play)

    def test_twelve_letters(self):
        dice = random.Random(67)
        for owners in ("es" * 6, "se" * 6, "e" * 12, "s" * 12, "eesseesseess"):
            for clauses in (random_clauses(dice, 12, 14, 4), random_clauses(dice, 12, 30, 5)):
                sentence = (owners, clauses)
                self.assertEqual(winner(sentence, ()), plain_winner(sentence, ()))
                self.assertEqual(good_moves(sentence, (1, -2)), plain_good_moves(sentence, (1, -2)))
        owners, clauses = filled_sentence(dice, 12, 200, 12)
        self.assertEqual(winner((owners, clauses), ()), plain_winner((owners, clauses), ()))

    def test_too_many(self):
        for letters in (13, 14, 60):
            sentence = ("s" * letters, ())
            for many in (0, 1, 12, letters - 1, letters):
                play = tuple(range(1, many + 1))
                check_call(self, winner, raised(TooMany(12)), sentence=sentence, play=play)
                if many < letters:
                    check_call(self, good_moves, raised(TooMany(12)), sentence=sentence, play=play)
            check_call(self, trees, raised(TooMany(12)), sentence=sentence)
            check_call(self, trees, raised(TooMany(12)), sentence=("e" * letters, ((),)))
        self.assertEqual(winner(("s" * 12, ()), tuple(range(1, 13))), "some")
        self.assertEqual(winner(("s" * 12, ()), ()), "some")


class GoodMovesTest(unittest.TestCase):
    def test_every_play_of_small_sentences(self):
        seen = set()
        for letters, many in ((1, 6), (2, 10), (3, 12), (4, 6)):
            for sentence in small_sentences(71 + letters, letters, many):
                for play in all_plays(letters - 1):
                    expected = plain_good_moves(sentence, play)
                    seen.add((sentence[0][len(play)], tuple([move > 0 for move in expected])))
                    self.assertEqual(good_moves(sentence, play), expected, (sentence, play))
                    owner = {"s": "some", "e": "each"}[sentence[0][len(play)]]
                    self.assertEqual(expected == (), winner(sentence, play) != owner)
        self.assertEqual(len(seen), 8)

    def test_calls(self):
        for sentence, play, expected in (
            (("ss", ()), (), (-1, 1)), (("es", ((-1, 2), (1, -2))), (1,), (2,)), (("es", ((1, 2),)), (), ()),
            (("e", ((1,),)), (), (-1,)), (("e", ((),)), (), (-1, 1)), (("sss", ((3,), (-1, 2))), (1, 2), (3,)),
        ):
            check_call(self, good_moves, returned(expected), sentence=sentence, play=play)


class TreesTest(unittest.TestCase):
    def test_all_ways_one_by_one(self):
        for letters, many in ((0, 1), (1, 6), (2, 10), (3, 12), (4, 5)):
            for sentence in small_sentences(79 + letters, letters, many):
                expected = plain_trees(sentence)
                self.assertEqual(trees(sentence), expected, sentence)
                self.assertEqual(summed_trees(sentence), expected)
                self.assertEqual(winner(sentence, ()) == "some", expected > 0)

    def test_sums_and_products(self):
        dice = random.Random(83)
        for letters in range(5, 13):
            for _ in range(3):
                sentence = random_sentence(dice, letters, dice.randint(1, 6), 4)
                self.assertEqual(trees(sentence), summed_trees(sentence), sentence)

    def test_calls(self):
        for sentence, expected in (
            (("", ()), 1), (("", ((),)), 0), (("ssss", ((),)), 0), (("s" * 12, ()), 4096), (("e" * 12, ()), 1),
            (("e" * 11 + "s", ()), 2 ** 2048), (("ess", ((1, 2),)), 8), (("eees", ()), 256), (("e", ((1,),)), 0),
            (("s", ((1,),)), 1), (("sees", ((1, -2), (-1, 3, 4), (4,))), 1),
        ):
            check_call(self, trees, returned(expected), sentence=sentence)


class LawsTest(unittest.TestCase):
    def sentences(self):
        dice = random.Random(89)
        for _ in range(120):
            letters = dice.randint(1, 5)
            clauses = random_clauses(dice, letters, dice.randint(1, 5), 3)
            sentence = ("".join([dice.choice("es") for _ in range(letters)]), clauses)
            yield dice, sentence

    def test_lost_and_true_clauses(self):
        for _, sentence in self.sentences():
            for play in all_plays(len(sentence[0])):
                states = [plain_state(clause, play) for clause in sentence[1]]
                if "lost" in states:
                    self.assertEqual(winner(sentence, play), "each")
                elif set(states) <= {"true"}:
                    self.assertEqual(winner(sentence, play), "some")

    def test_a_clause_more_and_a_clause_less(self):
        for dice, (owners, clauses) in self.sentences():
            fewer = (owners, clauses[:-1])
            if winner((owners, clauses), ()) == "some":
                self.assertEqual(winner(fewer, ()), "some")
            if clauses[0] and len(clauses[0]) < len(owners):
                free = [letter for letter in range(1, len(owners) + 1) if not {letter, -letter} & set(clauses[0])]
                wider = tuple(sorted(clauses[0] + (dice.choice(free),), key=abs))
                for play in all_plays(len(owners)):
                    self.assertEqual(winner((owners, clauses + (wider,)), play), winner((owners, clauses), play))
                self.assertEqual(trees((owners, clauses + (wider,))), trees((owners, clauses)))

    def test_a_letter_that_stands_nowhere(self):
        for dice, (owners, clauses) in self.sentences():
            at = dice.randint(0, len(owners))
            for owner in "es":
                moved = tuple([tuple([x + (x > 0) - (x < 0) if abs(x) > at else x for x in clause])
                               for clause in clauses])
                sentence = (owners[:at] + owner + owners[at:], moved)
                self.assertEqual(winner(sentence, ()), winner((owners, clauses), ()))

    def test_a_letter_given_to_some(self):
        for _, (owners, clauses) in self.sentences():
            if winner((owners, clauses), ()) == "some":
                for at in range(len(owners)):
                    self.assertEqual(winner((owners[:at] + "s" + owners[at + 1:], clauses), ()), "some")

    def test_neighbours_exchanged(self):
        for _, (owners, clauses) in self.sentences():
            if winner((owners, clauses), ()) == "some":
                for at in range(len(owners) - 1):
                    if owners[at:at + 2] == "se":
                        swap = {at + 1: at + 2, at + 2: at + 1, -at - 1: -at - 2, -at - 2: -at - 1}
                        named = tuple([tuple(sorted([swap.get(x, x) for x in clause], key=abs)) for clause in clauses])
                        self.assertEqual(winner((owners[:at] + "es" + owners[at + 2:], named), ()), "some")

    def test_literals_exchanged_for_their_contraries(self):
        for dice, (owners, clauses) in self.sentences():
            letter = dice.randint(1, len(owners))

            def turned(literals):
                return tuple([-x if abs(x) == letter else x for x in literals])

            sentence, other = (owners, clauses), (owners, tuple([turned(clause) for clause in clauses]))
            self.assertEqual(trees(other), trees(sentence))
            for play in all_plays(len(owners)):
                self.assertEqual(winner(other, turned(play)), winner(sentence, play))
                if len(play) < len(owners):
                    moves = good_moves(sentence, play)
                    self.assertEqual(good_moves(other, turned(play)), tuple(sorted(turned(moves))))


if __name__ == "__main__":
    unittest.main()
