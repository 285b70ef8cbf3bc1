import unittest

from eachsome.turngames import can_force, each_choices, game_error, moved, some_choices
from tests.helpers import any_values, check_call, returned
from tests.making_formulas import A, NO, YES, nested, wide
from tests.plain_games import (
    flags, plain_each, plain_force, plain_game_error, plain_goal, plain_moved, plain_some, random_games,
)

LAMP, OTHER, HERE, THERE = [("letter", name) for name in ("s0", "s1", "e0", "m0")]
FOLLOW = ((False,), 1, 1, YES, YES, (("same", HERE, THERE),), LAMP)
BOTH = ((False,), 1, 1, YES, YES, (("and", (HERE, THERE)),), LAMP)
TURNS = ((True, False), 1, 0, ("or", (OTHER, ("not", HERE))), YES, (("same", LAMP, HERE), LAMP), OTHER)


def changed(game, place, value):
    return game[:place] + (value,) + game[place + 1:]


class GameErrorTest(unittest.TestCase):
    def check(self, value, expected):
        self.assertEqual(repr(plain_game_error(value)), repr(expected), value)
        check_call(self, game_error, returned(expected), value=value)

    def test_games(self):
        for game in (FOLLOW, BOTH, TURNS):
            self.check(game, None)
        for _, game in random_games(911, 200):
            self.assertIsNone(plain_game_error(game))
            self.assertIsNone(game_error(game))

    def test_form(self):
        for value in ((), FOLLOW[:6], FOLLOW + (YES,), list(FOLLOW), None, "game", (FOLLOW,), {}, 7):
            self.check(value, "form")

    def test_start(self):
        for start in ((), (0,), (1,), (None,), [False], (False, 1), (False,) * 5, None, "s", (YES,), ((),), {0: False}, (True, "False")):
            self.check(changed(FOLLOW, 0, start), "start")
            self.check(changed(changed(FOLLOW, 0, start), 1, 7), "start")
        for bits in (1, 2, 3, 4):
            self.check(((True,) * bits, 0, 0, YES, YES, (LAMP,) * bits, ("letter", f"s{bits - 1}")), None)
            self.check(((True,) * bits, 0, 0, YES, YES, (LAMP,) * bits, ("letter", f"s{bits}")), "goal")

    def test_many(self):
        for many in (3, -1, True, False, None, "1", (1,), 10 ** 399, 1 - 10 ** 400, []):
            for place in (1, 2):
                self.check(changed(FOLLOW, place, many), "many")
                self.check(changed(changed(FOLLOW, place, many), 3, None), "many")
        for each_many in (0, 1, 2):
            for some_many in (0, 1, 2):
                names = [f"e{k}" for k in range(each_many)] + [f"m{k}" for k in range(some_many)]
                rule = ("and", tuple([("letter", name) for name in names] + [LAMP, LAMP]))
                self.check(((True,), each_many, some_many, YES, rule, (rule,), LAMP), None)
                for name in (f"e{each_many}", f"m{some_many}", "s1", "x", "e", "r0e0", "e00"):
                    wrong = ("and", (rule, ("letter", name)))
                    self.check(((True,), each_many, some_many, YES, wrong, (rule,), LAMP), "some_rule")
                    self.check(((True,), each_many, some_many, YES, rule, (wrong,), LAMP), ("next", 0))

    def test_rules(self):
        for wrong in (None, 7, (), ("and", (A,)), A, ("each", "s0", LAMP), ("not", ("some", "s0", YES)), ("letter", "s2"),
                      nested(LAMP, 40, lambda part: ("not", part)), wide(400, LAMP), ["letter", "s0"], ("letter", "1")):
            for place, word in ((3, "each_rule"), (4, "some_rule"), (6, "goal")):
                self.check(changed(TURNS, place, wrong), word)
            for place in (0, 1):
                self.check(changed(TURNS, 5, changed((LAMP, LAMP), place, wrong)), ("next", place))
        for right in (nested(LAMP, 39, lambda part: ("not", part)), wide(399, LAMP), NO, ("same", LAMP, OTHER)):
            for place in (3, 4, 6):
                self.check(changed(TURNS, place, right), None)
            self.check(changed(TURNS, 5, (right, right)), None)

    def test_which_names_where(self):
        game = ((True,), 1, 1, HERE, ("and", (HERE, THERE)), (("or", (LAMP, HERE, THERE)),), LAMP)
        self.check(game, None)
        for place, value, expected in ((3, THERE, "each_rule"), (3, LAMP, None), (4, LAMP, None), (6, HERE, "goal"), (6, THERE, "goal"),
                                       (5, (THERE,), None), (5, (OTHER,), ("next", 0)), (3, ("or", (HERE, THERE)), "each_rule")):
            self.check(changed(game, place, value), expected)

    def test_nexts(self):
        for nexts in ((), (LAMP,), (LAMP,) * 3, [LAMP, LAMP], None, "ab", {0: LAMP, 1: LAMP}, LAMP + (LAMP,)):
            self.check(changed(TURNS, 5, nexts), ("next", 2))
            self.check(changed(changed(TURNS, 5, nexts), 6, None), ("next", 2))
        self.check(changed(TURNS, 5, LAMP), ("next", 0))
        self.check(changed(TURNS, 5, (LAMP, HERE)), None)
        self.check(changed(TURNS, 5, (LAMP, THERE)), ("next", 1))
        self.check(changed(TURNS, 5, (THERE, THERE)), ("next", 0))

    def test_the_first_that_is_wrong(self):
        for wrong in range(7):
            game = FOLLOW
            for place in range(wrong, 7):
                game = changed(game, place, None)
            expected = ("start", "many", "many", "each_rule", "some_rule", ("next", 1), "goal")[wrong]
            self.check(game, expected)

    def test_any_values(self):
        for value in any_values():
            self.check(value, "form")
            for place in range(7):
                self.check(changed(FOLLOW, place, value), plain_game_error(changed(FOLLOW, place, value)))
            for made in ((value,), (LAMP, value)):
                self.check(changed(TURNS, 5, made), plain_game_error(changed(TURNS, 5, made)))


class ChoicesTest(unittest.TestCase):
    def test_all_states_of_small_games(self):
        seen = {}
        for _, game in random_games(919, 250):
            for state in flags(len(game[0])):
                choices = each_choices(game, state)
                self.assertEqual(choices, plain_each(game, state))
                seen[("each", len(choices) == 0, len(choices) == 2 ** game[1])] = True
                for choice in flags(game[1]):
                    answers = some_choices(game, state, choice)
                    self.assertEqual(answers, plain_some(game, state, choice))
                    seen[("some", len(answers) == 0, len(answers) == 2 ** game[2])] = True
                    for answer in flags(game[2]):
                        self.assertEqual(moved(game, state, choice, answer), plain_moved(game, state, choice, answer))
        for party in ("each", "some"):
            self.assertLessEqual({(party, True, False), (party, False, True), (party, False, False)}, set(seen))

    def test_calls(self):
        for game, state, expected in (
            (FOLLOW, (False,), ((False,), (True,))), (TURNS, (True, False), ((False,),)), (TURNS, (False, True), ((False,), (True,))),
            (changed(FOLLOW, 3, NO), (True,), ()), (changed(changed(FOLLOW, 1, 0), 5, (LAMP,)), (True,), ((),)),
            (((True,), 2, 0, YES, YES, (LAMP,), LAMP), (True,), ((False, False), (False, True), (True, False), (True, True))),
            (((True,), 2, 0, ("same", HERE, ("not", ("letter", "e1"))), YES, (LAMP,), LAMP), (True,), ((False, True), (True, False))),
        ):
            check_call(self, each_choices, returned(expected), game=game, state=state)
        for game, state, choice, expected in (
            (FOLLOW, (False,), (True,), ((False,), (True,))), (TURNS, (True, False), (False,), ((),)),
            (changed(TURNS, 4, NO), (True, False), (False,), ()), (changed(FOLLOW, 4, ("same", HERE, THERE)), (False,), (True,), ((True,),)),
            (((True,), 0, 2, YES, ("or", (THERE, ("letter", "m1"))), (LAMP,), LAMP), (True,), (), ((False, True), (True, False), (True, True))),
        ):
            check_call(self, some_choices, returned(expected), game=game, state=state, choice=choice)
        for game, state, choice, answer, expected in (
            (FOLLOW, (False,), (True,), (False,), (False,)), (FOLLOW, (False,), (True,), (True,), (True,)),
            (TURNS, (True, False), (False,), (), (False, True)), (TURNS, (True, False), (True,), (), (True, True)),
            (((False, True), 0, 0, YES, YES, (OTHER, LAMP), NO), (False, True), (), (), (True, False)),
        ):
            check_call(self, moved, returned(expected), game=game, state=state, choice=choice, answer=answer)


class CanForceTest(unittest.TestCase):
    def test_small_games(self):
        seen = {}
        for _, game in random_games(929, 150, 2, 4):
            for state in flags(len(game[0])):
                for rounds in range(4):
                    expected = plain_force(game, state, rounds)
                    self.assertIs(can_force(game, state, rounds), expected, (game, state, rounds))
                    seen[(expected, rounds, plain_goal(game, state))] = True
        for rounds in range(1, 4):
            self.assertLessEqual({(True, rounds, True), (True, rounds, False), (False, rounds, False)}, set(seen))

    def test_four_rounds(self):
        seen = {True: 0, False: 0}
        for dice, game in random_games(937, 60, 4, 4):
            if game[1] + game[2] <= 2:
                state = dice.choice(flags(len(game[0])))
                expected = plain_force(game, state, 4)
                self.assertIs(can_force(game, state, 4), expected)
                seen[expected] += 1
        self.assertGreater(min(seen.values()), 5)

    def test_how_many_rounds_it_takes(self):
        # A light that goes on along four bits, one a round: SOME lets it go, EACH has no say.
        bits = [("letter", f"s{k}") for k in range(4)]
        walk = ((True, False, False, False), 0, 1, YES, THERE, (NO, bits[0], bits[1], bits[2]), bits[3])
        for rounds in range(5):
            check_call(self, can_force, returned(rounds >= 3), game=walk, state=walk[0], rounds=rounds)
        for state, rounds in (((False, False, True, False), 1), ((False, True, False, False), 2), ((False, False, False, True), 0)):
            self.assertEqual([can_force(walk, state, many) for many in range(5)], [many >= rounds for many in range(5)])
        stuck = changed(walk, 4, NO)
        self.assertEqual([can_force(stuck, walk[0], many) for many in range(5)], [False] * 5)
        free = changed(changed(stuck, 1, 1), 3, NO)
        self.assertEqual([can_force(free, walk[0], many) for many in range(5)], [False] + [True] * 4)

    def test_great_games(self):
        # All that may be chosen, at all states, by long rules that let all; short rules tell the same.
        bits = tuple([("letter", f"s{k}") for k in range(4)])
        each, some = (HERE, ("letter", "e1")), (THERE, ("letter", "m1"))
        for goal in (NO, ("and", bits), ("not", ("or", bits)), ("same", bits[0], bits[1])):
            nexts = tuple([("same", (each + some)[k], bits[k]) for k in range(4)])
            short = ((False, True, True, False), 2, 2, YES, YES, nexts, goal)
            each_rule, some_rule = [("or", (("and", names * 60), YES)) for names in (each + bits, each + some)]
            long = short[:3] + (each_rule, some_rule, tuple([("and", (some_rule, told)) for told in nexts]), goal)
            self.assertIsNone(game_error(long))
            for rounds in (1, 4):
                for state in (short[0], (True,) * 4):
                    expected = can_force(short, state, rounds)
                    check_call(self, can_force, returned(expected), game=long, state=state, rounds=rounds)
                    if rounds == 1:
                        self.assertIs(plain_force(short, state, rounds), expected)

    def test_calls(self):
        for game, state, rounds, expected in (
            (FOLLOW, (False,), 0, False), (FOLLOW, (False,), 1, True), (FOLLOW, (False,), 2, True), (BOTH, (False,), 0, False),
            (BOTH, (False,), 1, False), (BOTH, (False,), 4, False), (BOTH, (True,), 0, True), (TURNS, (True, False), 0, False),
            (TURNS, (True, False), 1, True), (((False,), 1, 0, NO, YES, (LAMP,), LAMP), (False,), 1, True),
            (((False,), 1, 1, YES, NO, (YES,), LAMP), (False,), 1, False), (((False,), 1, 1, NO, NO, (YES,), LAMP), (False,), 1, True),
            (((False,), 1, 1, NO, NO, (YES,), LAMP), (False,), 0, False), (((False,), 0, 0, YES, YES, (YES,), LAMP), (False,), 1, True),
        ):
            check_call(self, can_force, returned(expected), game=game, state=state, rounds=rounds)
            self.assertIs(plain_force(game, state, rounds), expected)


if __name__ == "__main__":
    unittest.main()
