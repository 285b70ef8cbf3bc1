import random
import unittest
from itertools import combinations, islice

from eachsome.answers import answers_error, answers_reply
from eachsome.engines import engine_of, move_of, solved
from eachsome.errors import TooMany, Unfit
from eachsome.horns import horn_solved, once_no
from eachsome.lessening import lessened
from eachsome.meaning import winner
from eachsome.papers import paper_error
from eachsome.plays import result
from eachsome.replies import reply
from eachsome.search import decided
from eachsome.sentences import less
from eachsome.squeezing import squeezed
from eachsome.twos import two_fault, two_solved
from tests.finding import found_paper, rich_sentence, rows_without_end
from tests.helpers import check_call, outcome, raised, returned
from tests.making import all_owners, filled_sentence, random_owners
from tests.plain_answers import plain_wins, winning_answers
from tests.plain_horns import great_horns, horn_chains, horn_sentence
from tests.plain_webs import all_clauses, chained, great_sentences, two_sentence

STEPS, LOST, MUST = ("eses", ((-1, 2), (-2, -3, 4), (3, -4))), ("se", ((1,), (-1, 2))), ("es", ((-1, 2), (-2,)))
WIDE = ("s" * 13, ((1, 2, 3), (-1, -2, -3)))
THREE = ((1, 2, 3), (-1, -2, -3))


def ring(owners, first=1):
    """Three neighbours of each place, of one sign: no step makes it less."""
    places = range(first, first + len(owners) - 2)
    clauses = [(k, k + 1, k + 2) for k in places] + [(-k, -k - 1, -k - 2) for k in places]
    return tuple(clauses)


def engines_that_fit(sentence):
    owners, clauses = sentence
    fits = {"two": max(map(len, clauses), default=0) < 3,
            "horn": all([sum([literal > 0 for literal in clause]) < 2 for clause in clauses]), "search": len(owners) < 13}
    return [engine for engine in ("two", "horn", "search") if fits[engine]]


def is_paper(evidence):
    return evidence[:1] in (("no",), ("yes",))


def whole_plays(sentence, who, evidence):
    """All whole plays in which this party sets its letters by move_of."""
    plays = [()]
    for k, owner in enumerate(sentence[0]):
        if owner == who[0]:
            plays = [play + (move_of(sentence, evidence, play),) for play in plays]
        else:
            plays = [play + (literal,) for play in plays for literal in (k + 1, -k - 1)]
    return plays


def random_play(dice, sentence, who, evidence):
    play = ()
    for k, owner in enumerate(sentence[0]):
        play += (move_of(sentence, evidence, play) if owner == who[0] else dice.choice((k + 1, -k - 1)),)
    return play


class EngineOfTest(unittest.TestCase):
    def check(self, sentence, expected):
        check_call(self, engine_of, returned(expected), sentence=sentence)
        self.assertEqual((engines_that_fit(sentence) + ["none"])[0], expected)

    def test_small_sentences(self):
        dice = random.Random(743)
        seen = {}
        for _ in range(1000):
            sentence = rich_sentence(dice, dice.randint(0, 16), dice.randint(0, 6), dice.choice((2, 3)))
            engine = engine_of(sentence)
            self.assertEqual(engine, (engines_that_fit(sentence) + ["none"])[0])
            seen[engine] = seen.get(engine, 0) + 1
        self.assertEqual(set(seen), {"two", "horn", "search", "none"})
        self.assertGreater(min(seen.values()), 20)

    def test_the_first_that_fits(self):
        for sentence, expected in (
            (("ss", ((-1, 2),)), "two"), (("s" * 60, ((1, 2),)), "two"), (("", ()), "two"), (("e" * 60, ()), "two"), (("", ((),)), "two"),
            (("s" * 60, ((), (1,))), "two"), (("sss", ((-1, -2, 3),)), "horn"), (("s" * 60, ((-1, -2, 3), (-58, -59, -60))), "horn"),
            (("eee", ((1, -2, -3), (2, -3))), "horn"), (("sss", ((1, 2), (-1, -2, 3))), "search"),
            (("sss", ((-1, -2, 3), (1, 2))), "search"), (("s" * 12, THREE), "search"), (("e" * 12, THREE), "search"),
            (("s" * 13, THREE), "none"), (("e" * 13, THREE), "none"), (("s" * 60, ((1, 2), (1, -2, -3))), "none"),
            (("s" * 13, ((1, 2), (1, 3))), "two"), (("s" * 13, ((-1, -2, -3), (1,))), "horn"), (LOST, "two"), (STEPS, "horn"), (WIDE, "none"),
        ):
            self.check(sentence, expected)


class SolvedTest(unittest.TestCase):
    def check(self, sentence, who=None):
        """What solved tells of the sentence, when the evidence is right."""
        told, evidence = solved(sentence)
        if who is not None:
            self.assertEqual(told, who, sentence)
        if is_paper(evidence):
            self.assertEqual(evidence[0], {"each": "no", "some": "yes"}[told])
            self.assertIsNone(paper_error(sentence, evidence), sentence)
            return told, "paper"
        self.assertEqual(told, "some")
        try:
            self.assertIsNone(answers_error(sentence, evidence), sentence)
        except Unfit:
            return told, "unfit"
        return told, "answers"

    def check_small(self, sentence, plays=True):
        found = self.check(sentence, winner(sentence, ()))
        evidence = solved(sentence)[1]
        if found[1] == "unfit":
            self.assertTrue(plain_wins(sentence, evidence))
        if plays:
            for play in whole_plays(sentence, found[0], evidence):
                self.assertEqual(result(sentence, play), found[0])
        return found

    def test_all_sentences_of_few_letters(self):
        seen = {}
        for letters, most in ((0, 1), (1, 3), (2, 3), (3, 2)):
            for owners in all_owners(letters):
                for many in range(most + 1):
                    for chosen in combinations(all_clauses(letters), many):
                        seen[self.check_small((owners, chosen))] = True
        self.assertLessEqual({("each", "paper"), ("some", "answers")}, set(seen))

    def test_small_sentences_of_each_engine_and_all_owners(self):
        dice = random.Random(751)
        seen = {}
        for letters in range(2, 6):
            for owners in all_owners(letters):
                for made in (two_sentence(dice, letters, dice.randint(1, 5)), horn_sentence(dice, letters, dice.randint(1, 8), 4),
                             rich_sentence(dice, letters, 6), rich_sentence(dice, letters, 10), rich_sentence(dice, letters, 4, 5)):
                    sentence = (owners, made[1])
                    found = self.check_small(sentence)
                    seen[(engine_of(sentence), found)] = True
                    for place in range(0, len(sentence[1]), 3):
                        if found[0] == "some":
                            self.assertEqual(solved(less(sentence, (place,)))[0], "some")
        kinds = {(engine, found) for engine in ("two", "horn", "search") for found in (("each", "paper"), ("some", "answers"))}
        self.assertLessEqual(kinds | {("search", ("some", "paper")), ("search", ("some", "unfit"))}, set(seen))

    def test_the_search(self):
        dice = random.Random(757)
        seen = {}
        for _ in range(60):
            letters = dice.randint(6, 12)
            sentence = rich_sentence(dice, letters, dice.randint(letters, 4 * letters), 3)
            if engine_of(squeezed(lessened(sentence)[0])[0]) == "search":
                found = self.check_small(sentence, letters < 9)
                seen[found] = True
        for owners in ("es" * 6, "se" * 6, "s" * 12, "sssseess"):
            seen[self.check_small((owners, ring(owners)), False)] = True
        self.assertLessEqual({("each", "paper"), ("some", "paper")}, set(seen))

    def test_two_engines_that_fit_tell_one_thing(self):
        dice = random.Random(761)
        both = 0
        for _ in range(400):
            letters = dice.randint(1, 12)
            sentence = horn_sentence(dice, letters, dice.randint(1, 10), dice.choice((2, 3)))
            fit = engines_that_fit(sentence)
            told = {"search": decided(sentence), "horn": "some" if once_no(sentence) is None else "each"}
            if "two" in fit:
                told["two"] = "some" if two_fault(sentence) is None else "each"
                self.assertEqual((two_solved(sentence)[0], horn_solved(sentence)[0]), {"some": ("yes", "yes"),
                                                                                          "each": ("no", "no")}[told["two"]])
                both += 1
            self.assertEqual(set(told.values()), {self.check(sentence)[0]})
        self.assertGreater(both, 100)

    def test_many_letters_that_are_made_less(self):
        dice = random.Random(769)
        seen = {}
        for _ in range(60):
            letters = dice.randint(12, 60)
            small = ("".join(dice.choices("ess", k=7)), rich_sentence(dice, 7, dice.choice((8, 14, 18)))[1])
            small = (small[0], tuple([clause for clause in small[1] if len(clause) > 1]))
            chosen = sorted(dice.sample(range(1, letters + 1), 7))
            owners = list(random_owners(dice, letters))
            for old, new in enumerate(chosen):
                owners[new - 1] = small[0][old]
            clauses = {tuple([chosen[abs(k) - 1] * (1 if k > 0 else -1) for k in clause]): True for clause in small[1]}
            for _ in range(20):
                # With a literal of SOME's that is asked for alone the clause is of no weight.
                clause = tuple(sorted(dice.sample(range(1, letters + 1), 3)))
                if any([k not in chosen and owners[k - 1] == "s" for k in clause]):
                    clauses[clause] = True
            sentence = ("".join(owners), tuple(clauses))
            seen[self.check(sentence, winner(small, ()))] = True
            who, evidence = solved(sentence)
            for _ in range(5):
                self.assertEqual(result(sentence, random_play(dice, sentence, who, evidence)), who)
        self.assertLessEqual({("each", "paper"), ("some", "paper")}, set(seen))
        for sentence, who in ((WIDE, "some"), (("s" * 13, ((1, 2, 3),)), "some"), (("s" * 60, THREE), "some"), (("e" * 60, THREE), "each"),
                              (("e" * 20 + "s", ((1, -5, 21), (-1, 5, -21))), "some"), (("s" * 12 + "e", ((1, 2, 13), (-1, -2, -13))), "some"),
                              (("s" * 30, ((1,), (-1, 2, 3), (-1, 2, -3), (-2, 5, 6), (-5, 6), (5, -6), (-5, -6))), "each"),
                              (("s" * 60, ring("s" * 12, 20)), "some"), (("es" * 30, ring("es" * 6, 7)), None),
                              (("s" * 60, ((60,),) + tuple([clause + (-60,) for clause in ring("s" * 12, 20)])), "some")):
            self.check(sentence, who)

    def test_too_many(self):
        asked = tuple([clause + (-60,) for clause in ring("s" * 13, 20)])
        for sentence in (("s" * 13, ring("s" * 13)), ("s" * 60, ring("s" * 13, 20)), ("s" * 60, ring("s" * 60)),
                         ("s" * 60, ((60,),) + asked), ("s" * 60, ((1,), (-1, 2, 3)) + ring("s" * 13, 20))):
            check_call(self, solved, raised(TooMany(12)), sentence=sentence)
        for sentence in (("s" * 60, ring("s" * 12, 20)), ("s" * 60, ((60,),) + asked[:10] + asked[11:21])):
            self.check(sentence, "some")

    def test_sentences_that_just_miss(self):
        dice = random.Random(773)
        seen = {}
        for _ in range(120):
            letters = dice.randint(11, 18)
            owners = "".join(dice.choices("essss", k=letters))
            sentence = (owners, tuple(dict.fromkeys([clause for clause in filled_sentence(dice, letters, 80, 4)[1] if len(clause) > 2])))
            sentence = (owners, sentence[1][:dice.choice((10, 20, 40))])
            least = squeezed(lessened(sentence)[0])[0]
            engine = (engines_that_fit(least) + ["none"])[0]
            seen[(engine, len(sentence[0]) > 12)] = True
            if engine == "none":
                self.assertEqual(outcome(lambda: solved(sentence)), raised(TooMany(12)))
            else:
                self.check(sentence, winner(least, ()) if len(least[0]) <= 12 else None)
        self.assertLessEqual({("search", False), ("search", True), ("none", True)}, set(seen))

    def test_great_sentences_of_two_letters_a_clause(self):
        seen = {}
        dice = random.Random(787)
        for sentence in [*great_sentences(797, 40), *[sentence for _, sentence in chained(809, 40)]]:
            found = self.check(sentence, "some" if two_fault(sentence) is None else "each")
            seen[found] = True
            evidence = solved(sentence)[1]
            for _ in range(3):
                self.assertEqual(result(sentence, random_play(dice, sentence, found[0], evidence)), found[0])
        self.assertEqual(set(seen), {("each", "paper"), ("some", "answers")})

    def test_great_horn_sentences(self):
        seen = {}
        dice = random.Random(811)
        for sentence in [*great_horns(821, 24), *horn_chains(823, 40)]:
            found = self.check(sentence, "some" if once_no(sentence) is None else "each")
            seen[found] = True
            evidence = solved(sentence)[1]
            for _ in range(3):
                self.assertEqual(result(sentence, random_play(dice, sentence, found[0], evidence)), found[0])
        self.assertEqual(set(seen), {("each", "paper"), ("some", "answers")})

    def test_calls(self):
        for sentence, who in ((LOST, "each"), (STEPS, "some"), (MUST, "each"), (("ses", THREE), "some"), (("s" * 13, ((1, 2, 3),)), "some"),
                              (WIDE, "some"), (("", ()), "some"), (("", ((),)), "each"), (("e", ()), "some"), (("e" * 60, ((60,),)), "each")):
            check_call(self, solved, outcome(lambda: solved(sentence)), sentence=sentence)
            self.check(sentence, who)
        check_call(self, move_of, returned(-2), sentence=LOST, evidence=solved(LOST)[1], play=(1,))


class MoveOfTest(unittest.TestCase):
    def test_evidence_of_each_kind(self):
        dice = random.Random(827)
        seen = {}
        for _ in range(250):
            letters = dice.randint(2, 6)
            sentence = rich_sentence(dice, letters, dice.randint(1, 8))
            paper = found_paper(sentence)
            who = {"no": "each", "yes": "some"}[paper[0]]
            for evidence in (paper, rows_without_end(sentence, paper), *islice(winning_answers(sentence), 3)):
                seen[(who, is_paper(evidence))] = seen.get((who, is_paper(evidence)), 0) + 1
                for play in whole_plays(sentence, who, evidence):
                    self.assertEqual(result(sentence, play), who)
                    for many in range(letters):
                        if sentence[0][many] == who[0]:
                            ahead = play[:many]
                            told = reply(sentence, evidence, ahead) if is_paper(evidence) else answers_reply(evidence, ahead)
                            self.assertEqual(move_of(sentence, evidence, ahead), told)
        self.assertEqual(set(seen), {("each", True), ("some", True), ("some", False)})
        self.assertGreater(min(seen.values()), 40)

    def test_two_pairs_are_no_paper(self):
        sentence = ("esees", ((-1, 2), (1, -2), (-3, 5)))
        answers = ((2, ("all", (1,))), (5, ("all", (3,))))
        for play, move in (((1,), 2), ((-1,), -2), ((1, 2, 3, 4), 5), ((1, 2, -3, 4), -5)):
            check_call(self, move_of, returned(move), sentence=sentence, evidence=answers, play=play)
        check_call(self, move_of, returned(-1), sentence=("s", ()), evidence=((1, ("no",)),), play=())
        check_call(self, move_of, returned(1), sentence=("s", ()), evidence=("yes", (("lot", ()),)), play=())
        paper = ("yes", (("lot", (1, 2)), ("drop", 0), ("lot", (-1, -2)), ("drop", 2), ("meet", 1, 3)))
        check_call(self, move_of, returned(-2), sentence=("es", ((-1, 2), (1, -2))), evidence=paper, play=(-1,))

    def test_two_sentences_by_turns(self):
        dice = random.Random(829)
        for _ in range(30):
            told = []
            for _ in range(2):
                sentence = rich_sentence(dice, 5, 7)
                told.append((sentence, *solved(sentence)))
            alone = [[move_of(sentence, evidence, play[:many]) for play in whole_plays(sentence, who, evidence)
                      for many in range(5) if sentence[0][many] == who[0]] for sentence, who, evidence in told]
            places = [[(play, many) for play in whole_plays(sentence, who, evidence) for many in range(5)
                       if sentence[0][many] == who[0]] for sentence, who, evidence in told]
            for at in range(max(map(len, places))):
                for number in (0, 1):
                    if at < len(places[number]):
                        play, many = places[number][at]
                        sentence, _, evidence = told[number]
                        self.assertEqual(move_of(sentence, evidence, play[:many]), alone[number][at])


if __name__ == "__main__":
    unittest.main()
