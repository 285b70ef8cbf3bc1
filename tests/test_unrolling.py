import random
import unittest

from eachsome.compiling import Circuit, Settings, compiled, formula_paper
from eachsome.errors import TooMany, Unfit
from eachsome.formulas import formula_error, free_names
from eachsome.papers import paper_error
from eachsome.search import paper_from
from eachsome.truths import holds
from eachsome.turngames import can_force, each_choices, moved, some_choices
from eachsome.unrolling import game_move, game_paper, unrolled
from tests.finding import found_paper, rows_without_end
from tests.helpers import check_call, outcome, raised, returned
from tests.making_formulas import NO, YES, nested, wide
from tests.plain_formulas import depth_of, many_nodes
from tests.plain_games import plain_goal, plain_unrolled, random_game, random_games
from tests.test_turngames import BOTH, FOLLOW, HERE, LAMP, OTHER, THERE, TURNS, changed

# SOME needs both bits: the one that it chooses now, and the one that it chose a round ahead.
TWICE = ((False, False), 0, 1, YES, YES, (THERE, LAMP), ("and", (LAMP, OTHER)))
# So, too, but EACH may forbid it, though not in two rounds one behind another.
FORBID = ((False, False), 1, 1, ("not", ("and", (HERE, OTHER))), YES, (("and", (THERE, ("not", HERE))), HERE), LAMP)


def quantifiers_of(game, rounds):
    return rounds * (game[1] + game[2] + len(game[0]))


class UnrolledTest(unittest.TestCase):
    def check(self, game, rounds):
        expected = plain_unrolled(game, rounds)
        if expected is None:
            told = outcome(lambda: unrolled(game, rounds))
            self.assertIn(told, (raised(TooMany(400)), raised(TooMany(40))))
            return told
        self.assertEqual(unrolled(game, rounds), expected)
        self.assertIsNone(formula_error(expected))
        self.assertEqual(free_names(expected), ())
        return None

    def test_random_games(self):
        seen = {}
        for _, game in random_games(941, 300):
            for rounds in range(5):
                seen[self.check(game, rounds)] = True
        for _, game in random_games(983, 100, nodes=60):
            for rounds in range(3):
                seen[self.check(game, rounds)] = True
        self.assertLessEqual({None, raised(TooMany(400)), raised(TooMany(40))}, set(seen))

    def test_it_holds_just_if_it_can_be_forced(self):
        seen = {}
        for _, game in random_games(947, 400, 3, 4):
            for rounds in range(5):
                if quantifiers_of(game, rounds) <= 12 and self.check(game, rounds) is None:
                    expected = can_force(game, game[0], rounds)
                    self.assertIs(holds(unrolled(game, rounds), {}), expected, (game, rounds))
                    seen[(rounds, expected)] = seen.get((rounds, expected), 0) + 1
        for rounds in range(5):
            self.assertGreater(min(seen[(rounds, True)], seen[(rounds, False)]), 10)

    def test_bounds(self):
        for rounds in range(1, 5):
            told = {}
            for many in range(2, 399):
                game = ((False,), 1, 1, YES, YES, (LAMP,), wide(many, LAMP))
                nodes = self.nodes(game, rounds)
                if nodes > 400:
                    self.assertEqual(outcome(lambda: unrolled(game, rounds)), raised(TooMany(400)))
                elif nodes > 390 - rounds:
                    self.assertEqual(many_nodes(unrolled(game, rounds)), nodes)
                told[nodes > 400] = True
            self.assertEqual(set(told), {True, False})

    def nodes(self, game, rounds):
        """How many nodes the formula has, as told in [K4]."""
        start, each_many, some_many, each_rule, some_rule, nexts, goal = game
        if rounds == 0:
            return many_nodes(goal)
        sames = sum([2 + many_nodes(formula) for formula in nexts])
        inner = len(start) + 1 + sames + self.nodes(game, rounds - 1)
        inner += some_many + 1 + many_nodes(some_rule)
        return 1 + many_nodes(goal) + each_many + 2 + many_nodes(each_rule) + inner

    def test_exact_nodes(self):
        # Of one round: seven nodes around, two of a "same", and those of all that is put in, the goal twice.
        for place in (3, 4, 6):
            for many in range(100, 400):
                game = changed(FOLLOW, place, wide(many, LAMP))
                nodes = self.nodes(game, 1)
                if nodes in (399, 400, 401, 402):
                    self.assertEqual(outcome(lambda: unrolled(game, 1))[0], "returned" if nodes <= 400 else "raised")
                    self.assertEqual(self.check(game, 1), None if nodes <= 400 else raised(TooMany(400)))
        exact = [changed(FOLLOW, 3, wide(many, LAMP)) for many in range(300, 399) if self.nodes(changed(FOLLOW, 3, wide(many, LAMP)), 1) == 400]
        self.assertEqual(len(exact), 1)
        self.assertEqual(many_nodes(unrolled(exact[0], 1)), 400)
        check_call(self, unrolled, raised(TooMany(400)), game=changed(exact[0], 6, ("not", LAMP)), rounds=1)

    def test_exact_depth(self):
        def turns(many):
            return nested(LAMP, many, lambda part: ("not", part))
        # Above EACH's rule stand "or", "each", "or" and "not"; above SOME's "or", "each", "or", "some" and "and";
        # above the goal of the next state these, "some" and "and"; nothing else is ten deep.
        for place, above in ((3, 4), (4, 5), (6, 7)):
            for many in range(39):
                game = changed(FOLLOW, place, turns(many))
                deep = above + 1 + many
                told = outcome(lambda: unrolled(game, 1))
                self.assertEqual(told[0], "returned" if deep <= 40 else "raised", (place, many))
                if deep <= 40:
                    self.assertEqual(self.check(game, 1), None)
                    self.assertEqual(depth_of(unrolled(game, 1)), max(deep, 10))
                else:
                    self.assertEqual(told, raised(TooMany(40)))
        for many, expected in ((31, None), (32, raised(TooMany(40)))):
            self.assertEqual(self.check(changed(FOLLOW, 5, (turns(many),)), 1), expected)
        deepest = ((False,) * 4, 2, 2, YES, YES, (LAMP,) * 4, LAMP)
        self.assertIsNone(self.check(deepest, 2))
        self.assertEqual(depth_of(unrolled(deepest, 2)), 26)
        self.assertEqual(depth_of(unrolled(deepest, 3)), 38)
        check_call(self, unrolled, raised(TooMany(40)), game=deepest, rounds=4)
        # Nodes are told ahead of depth.
        check_call(self, unrolled, raised(TooMany(400)), game=changed(deepest, 6, ("and", (turns(37), wide(300, LAMP)))), rounds=4)

    def test_at_once_where_it_could_not_be_made(self):
        long = wide(399, LAMP)
        game = ((False,) * 4, 2, 2, long, long, (long,) * 4, long)
        for rounds in range(1, 5):
            check_call(self, unrolled, raised(TooMany(400)), game=game, rounds=rounds)
        check_call(self, unrolled, returned(("and", (NO,) * 399)), game=game, rounds=0)

    def test_calls(self):
        letters = {name: ("letter", name) for name in ("r0e0", "r0m0", "r1s0", "r1s1")}
        told = ("same", letters["r1s0"], ("and", (letters["r0e0"], letters["r0m0"])))
        one = ("and", (YES, ("some", "r1s0", ("and", (told, letters["r1s0"])))))
        both = ("or", (NO, ("each", "r0e0", ("or", (("not", YES), ("some", "r0m0", one))))))
        later = ("and", (("same", letters["r1s0"], ("same", YES, letters["r0e0"])), ("same", letters["r1s1"], YES), letters["r1s1"]))
        later = ("and", (YES, ("some", "r1s0", ("some", "r1s1", later))))
        turns = ("or", (NO, ("each", "r0e0", ("or", (("not", ("or", (NO, ("not", letters["r0e0"])))), later)))))
        for game, rounds, expected in ((BOTH, 0, NO), (TURNS, 0, NO), (changed(BOTH, 0, (True,)), 0, YES), (BOTH, 1, both), (TURNS, 1, turns),
                                       (changed(TURNS, 6, ("same", LAMP, OTHER)), 0, ("same", YES, NO))):
            self.assertEqual(plain_unrolled(game, rounds), expected)
            check_call(self, unrolled, returned(expected), game=game, rounds=rounds)


class GamePaperTest(unittest.TestCase):
    def check(self, game, rounds):
        """The side of the paper, or what is raised, when it is as it should be."""
        expected = outcome(lambda: unrolled(game, rounds))
        if expected[0] == "returned":
            expected = outcome(lambda: formula_paper(unrolled(game, rounds)))
        self.assertEqual(outcome(lambda: game_paper(game, rounds)), expected)
        if expected[0] == "raised":
            return expected
        paper = game_paper(game, rounds)
        self.assertIsNone(paper_error(compiled(unrolled(game, rounds))[0], paper))
        self.assertEqual(paper[0], "yes" if can_force(game, game[0], rounds) else "no")
        return paper[0]

    def test_random_games(self):
        seen = {}
        for _, game in random_games(953, 200, 3, 4):
            for rounds in range(5):
                if quantifiers_of(game, rounds) <= 15:
                    told = self.check(game, rounds)
                    seen[told] = seen.get(told, 0) + 1
        self.assertGreater(min(seen["yes"], seen["no"]), 100)
        self.assertLessEqual({raised(TooMany(60)), raised(TooMany(12))}, set(seen))

    def test_what_is_raised_and_in_which_order(self):
        small = ((False,), 1, 1, YES, YES, (LAMP,), LAMP)
        for game, rounds, error in (
            (changed(small, 6, wide(398, LAMP)), 1, TooMany(400)), (changed(small, 6, nested(LAMP, 38, lambda part: ("not", part))), 1, TooMany(40)),
            (((False,) * 4, 2, 2, YES, YES, (LAMP,) * 4, LAMP), 2, TooMany(60)), (((False,) * 4, 2, 2, YES, YES, (LAMP,) * 4, LAMP), 4, TooMany(40)),
            (changed(small, 5, (nested(LAMP, 25, lambda part: ("same", part, LAMP)),)), 1, TooMany(400)),
            (((False,) * 4, 2, 2, YES, YES, (NO,) * 4, NO), 2, TooMany(60)), (((False,) * 3, 2, 2, YES, YES, (LAMP,) * 3, LAMP), 2, TooMany(12)),
            (((False,), 2, 2, YES, YES, (LAMP,), LAMP), 3, TooMany(12)),
        ):
            check_call(self, game_paper, raised(error), game=game, rounds=rounds)
            self.assertEqual(self.check(game, rounds), raised(error))
        self.assertEqual(self.check(small, 4), "no")
        self.assertEqual(self.check(changed(small, 0, (True,)), 4), "yes")

    def test_calls(self):
        for game, rounds, side in ((FOLLOW, 1, "yes"), (FOLLOW, 0, "no"), (BOTH, 1, "no"), (TURNS, 1, "yes"), (FOLLOW, 3, "yes"), (BOTH, 4, "no"),
                                   (TWICE, 1, "no"), (TWICE, 2, "yes"), (TWICE, 3, "yes"), (FORBID, 1, "no"), (FORBID, 2, "yes")):
            check_call(self, game_paper, returned(game_paper(game, rounds)), game=game, rounds=rounds)
            self.assertEqual(self.check(game, rounds), side)


class GameMoveTest(unittest.TestCase):
    def play_on(self, game, rounds, paper, history, state):
        """Go through all that the other party may choose; the holder's choices have to be right, and to win.

        How many choices of the holder were made.
        """
        if plain_goal(game, state) or len(history) == 2 * rounds:
            self.assertEqual(plain_goal(game, state), paper[0] == "yes")
            return 0
        choices = each_choices(game, state)
        if paper[0] == "no":
            chosen = game_move(game, rounds, paper, history)
            self.assertIn(chosen, choices)
            return 1 + self.answered(game, rounds, paper, history + (chosen,), state)
        with self.assertRaises(Unfit):
            game_move(game, rounds, paper, history)
        return sum([self.answered(game, rounds, paper, history + (choice,), state) for choice in choices])

    def answered(self, game, rounds, paper, history, state):
        answers = some_choices(game, state, history[-1])
        if paper[0] == "yes":
            chosen = game_move(game, rounds, paper, history)
            self.assertIn(chosen, answers)
            answers = (chosen,)
        else:
            with self.assertRaises(Unfit):
                game_move(game, rounds, paper, history)
        made = paper[0] == "yes"
        for answer in answers:
            made += self.play_on(game, rounds, paper, history + (answer,), moved(game, state, history[-1], answer))
        return made

    def check(self, game, rounds, paper):
        self.assertIsNone(paper_error(compiled(unrolled(game, rounds))[0], paper))
        return self.play_on(game, rounds, paper, (), game[0])

    def test_random_games(self):
        seen = {"yes": 0, "no": 0}
        sizes = {}
        for dice, game in random_games(967, 260, 4, 4):
            for rounds in range(1, 5):
                if quantifiers_of(game, rounds) <= 12 and outcome(lambda: game_paper(game, rounds))[0] == "returned":
                    paper = game_paper(game, rounds)
                    made = self.check(game, rounds, paper)
                    seen[paper[0]] += made
                    if made:
                        sizes[(paper[0], len(game[0]), rounds, game[1], game[2])] = True
        self.assertGreater(min(seen.values()), 100)
        for side, own in (("yes", 4), ("no", 3)):
            self.assertEqual({size[own] for size in sizes if size[0] == side}, {0, 1, 2})
            self.assertEqual({size[1] for size in sizes if size[0] == side and size[2] == 1}, {1, 2, 3, 4})
            self.assertEqual({size[2] for size in sizes if size[0] == side}, {1, 2, 3, 4})

    def test_other_papers(self):
        dice = random.Random(971)
        seen = {"yes": 0, "no": 0}
        for _ in range(150):
            game = random_game(dice, 1, dice.randint(0, 1), dice.randint(0, 1), 2)
            for rounds in (1, 2):
                if outcome(lambda: game_paper(game, rounds))[0] == "returned":
                    sentence = compiled(unrolled(game, rounds))[0]
                    papers = [rows_without_end(sentence, game_paper(game, rounds))]
                    if len(sentence[0]) <= 10:
                        papers.append(found_paper(sentence))
                    for paper in papers:
                        seen[paper[0]] += self.check(game, rounds, paper)
        self.assertGreater(min(seen.values()), 15)

    def test_more_than_twelve_quantifiers(self):
        dice = random.Random(977)
        seen = {"yes": 0, "no": 0}
        for number in range(40):
            each_many, some_many = ((2, 1), (1, 2), (2, 2))[number % 3]
            chosen = [("letter", f"{sign}{k}") for sign, many in (("s", 2), ("e", each_many), ("m", some_many)) for k in range(many)]
            nexts = tuple([dice.choice((letter, ("not", letter))) for letter in dice.sample(chosen, 2)])
            goal = dice.choice((LAMP, OTHER, ("and", (LAMP, OTHER)), ("same", LAMP, OTHER)))
            game = ((False, True), each_many, some_many, YES, YES, nexts, goal)
            if outcome(lambda: game_paper(game, 3)) == raised(TooMany(12)):
                paper = paper_from(Settings(Circuit(unrolled(game, 3))))
                self.assertEqual(paper[0], "yes" if can_force(game, game[0], 3) else "no")
                seen[paper[0]] += self.check(game, 3, paper) > 0
        self.assertGreater(min(seen.values()), 3)

    def test_games_that_go_on(self):
        for game, rounds in ((TWICE, 1), (TWICE, 2), (TWICE, 3), (FORBID, 1), (FORBID, 2), (changed(FORBID, 0, (False, True)), 1), (FOLLOW, 3),
                             (BOTH, 4), (TURNS, 2), (FORBID, 3)):
            self.assertGreater(self.check(game, rounds, game_paper(game, rounds)), 0)

    def test_no_bits_to_choose(self):
        for game, rounds, history, side in ((((False,), 1, 0, YES, YES, (YES,), LAMP), 1, ((True,),), "yes"),
                                            (((False,), 0, 1, YES, YES, (NO,), LAMP), 2, (), "no"),
                                            (((False,), 0, 1, YES, YES, (NO,), LAMP), 2, ((), (True,)), "no"),
                                            (((False,), 0, 0, YES, YES, (YES,), LAMP), 1, ((),), "yes")):
            paper = game_paper(game, rounds)
            self.assertEqual(paper[0], side)
            check_call(self, game_move, returned(()), game=game, rounds=rounds, paper=paper, history=history)

    def test_unfit(self):
        yes, no = game_paper(FOLLOW, 2), game_paper(BOTH, 2)
        for game, paper, history in ((FOLLOW, yes, ()), (FOLLOW, yes, ((True,), (False,))), (BOTH, no, ((False,),)),
                                     (BOTH, no, ((True,), (False,), (True,))), (BOTH, no, ((True,), (False,), (False,), (True,))),
                                     (FOLLOW, yes, ((True,), (False,), (False,), (True,)))):
            check_call(self, game_move, raised(Unfit()), game=game, rounds=2, paper=paper, history=history)
        for game, paper in ((FOLLOW, game_paper(FOLLOW, 0)), (changed(FOLLOW, 0, (True,)), game_paper(changed(FOLLOW, 0, (True,)), 0))):
            check_call(self, game_move, raised(Unfit()), game=game, rounds=0, paper=paper, history=())
        check_call(self, game_move, raised(Unfit()), game=BOTH, rounds=1, paper=game_paper(BOTH, 1), history=((False,), (True,)))

    def test_unfit_without_bits_to_choose(self):
        game = ((False,), 0, 1, YES, YES, (NO,), LAMP)
        for rounds in (0, 1, 2):
            paper = game_paper(game, rounds)
            check_call(self, game_move, raised(Unfit()), game=game, rounds=rounds, paper=paper, history=((), (True,)) * rounds)
        check_call(self, game_move, raised(Unfit()), game=game, rounds=2, paper=game_paper(game, 2), history=((),))
        game = ((False,), 1, 0, YES, YES, (YES,), LAMP)
        for history in ((), ((True,), ()), ((True,), (), (False,), ())):
            check_call(self, game_move, raised(Unfit()), game=game, rounds=2, paper=game_paper(game, 2), history=history)

    def test_two_games_by_turns(self):
        games = [(FOLLOW, 1), (BOTH, 2), (changed(FOLLOW, 5, (("same", HERE, ("not", THERE)),)), 1)]
        papers = [game_paper(game, rounds) for game, rounds in games]
        for flag in (True, False):
            self.assertEqual(game_move(FOLLOW, 1, papers[0], ((flag,),)), (flag,))
            self.assertEqual(game_move(BOTH, 2, papers[1], ()), (False,))
            self.assertEqual(game_move(games[2][0], 1, papers[2], ((flag,),)), (not flag,))
            self.assertEqual(game_move(BOTH, 2, papers[1], ((False,), (flag,))), (False,))

    def test_calls(self):
        seen, blocked = game_paper(FOLLOW, 1), game_paper(BOTH, 1)
        for choice in (True, False):
            check_call(self, game_move, returned((choice,)), game=FOLLOW, rounds=1, paper=seen, history=((choice,),))
        check_call(self, game_move, returned((False,)), game=BOTH, rounds=1, paper=blocked, history=())
        check_call(self, game_move, raised(Unfit()), game=FOLLOW, rounds=1, paper=seen, history=())


if __name__ == "__main__":
    unittest.main()
