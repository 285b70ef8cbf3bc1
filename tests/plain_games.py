"""What [K] tells of turn games, as plainly as can be; and games."""

import random
import re
from itertools import product

from tests.making_formulas import random_formula
from tests.plain_formulas import has_quantifier, plain_formula_error, plain_free, plain_holds, plain_read, plain_text

NAME = re.compile(r"\b([sem])([0-9])\b")


def plain_rule(value, bits, each_many, some_many):
    """Whether value is a formula of the kind that is told, with bits of the state and of both choices, so many."""
    if plain_formula_error(value) is not None or has_quantifier(value):
        return False
    names = [f"s{k}" for k in range(bits)] + [f"e{k}" for k in range(each_many)] + [f"m{k}" for k in range(some_many)]
    return set(plain_free(value)) <= set(names)


def plain_game_error(value):
    if type(value) is not tuple or len(value) != 7:
        return "form"
    start, each_many, some_many, each_rule, some_rule, nexts, goal = value
    if type(start) is not tuple or len(start) not in (1, 2, 3, 4) or any([type(bit) is not bool for bit in start]):
        return "start"
    if any([type(many) is not int or many not in (0, 1, 2) for many in (each_many, some_many)]):
        return "many"
    if not plain_rule(each_rule, len(start), each_many, 0):
        return "each_rule"
    if not plain_rule(some_rule, len(start), each_many, some_many):
        return "some_rule"
    if type(nexts) is not tuple or len(nexts) != len(start):
        return ("next", len(start))
    for place, formula in enumerate(nexts):
        if not plain_rule(formula, len(start), each_many, some_many):
            return ("next", place)
    return None if plain_rule(goal, len(start), 0, 0) else "goal"


def plain_world(state, choice=(), answer=()):
    return {f"{sign}{k}": flag for sign, flags in zip("sem", (state, choice, answer)) for k, flag in enumerate(flags)}


def flags(many):
    return list(product((False, True), repeat=many))


def plain_each(game, state):
    return tuple([choice for choice in flags(game[1]) if plain_holds(game[3], plain_world(state, choice))])


def plain_some(game, state, choice):
    return tuple([answer for answer in flags(game[2]) if plain_holds(game[4], plain_world(state, choice, answer))])


def plain_moved(game, state, choice, answer):
    return tuple([plain_holds(formula, plain_world(state, choice, answer)) for formula in game[5]])


def plain_goal(game, state):
    return plain_holds(game[6], plain_world(state))


def plain_force(game, state, rounds):
    if plain_goal(game, state):
        return True
    if rounds == 0:
        return False
    for choice in plain_each(game, state):
        answers = plain_some(game, state, choice)
        if not any([plain_force(game, plain_moved(game, state, choice, answer), rounds - 1) for answer in answers]):
            return False
    return True


def put_text(formula, number, state):
    """The text of the formula in brackets, with all its names put in as they are called in this round."""
    def told(found):
        sign, at = found.group(1), int(found.group(2))
        return state[at] if sign == "s" else f"r{number}{sign}{at}"
    return f"({NAME.sub(told, plain_text(formula))})"


def plain_unrolled_text(game, number, state, left):
    start, each_many, some_many, each_rule, some_rule, nexts, goal = game
    if left == 0:
        return put_text(goal, number, state)
    later = [f"r{number + 1}s{k}" for k in range(len(start))]
    sames = [f"({name} = {put_text(formula, number, state)})" for name, formula in zip(later, nexts)]
    rest = plain_unrolled_text(game, number + 1, later, left - 1)
    rest = "".join([f"some {name} " for name in later]) + f"({' & '.join(sames)} & ({rest}))"
    answers = "".join([f"some r{number}m{k} " for k in range(some_many)])
    rest = f"{answers}({put_text(some_rule, number, state)} & ({rest}))"
    choices = "".join([f"each r{number}e{k} " for k in range(each_many)])
    return f"{put_text(goal, number, state)} | {choices}(!{put_text(each_rule, number, state)} | ({rest}))"


def plain_unrolled(game, rounds):
    """The formula, by putting into texts; None if it is none, as it is too great."""
    return plain_read(plain_unrolled_text(game, 0, ["yes" if bit else "no" for bit in game[0]], rounds))


def random_rule(dice, nodes, names):
    """A formula with these names that often holds, but not always."""
    formula = random_formula(dice, dice.randint(1, nodes), names, ("not", "and", "or", "same"))
    return ("or", (formula, ("letter", dice.choice(names)))) if dice.random() < 0.3 else formula


def random_game(dice, bits, each_many, some_many, nodes=5):
    states = tuple([f"s{k}" for k in range(bits)])
    chosen = states + tuple([f"e{k}" for k in range(each_many)])
    answered = chosen + tuple([f"m{k}" for k in range(some_many)])
    each_rule = ("and", ()) if dice.random() < 0.5 else random_rule(dice, nodes, chosen)
    some_rule = ("and", ()) if dice.random() < 0.4 else random_rule(dice, nodes, answered)
    nexts = tuple([random_rule(dice, nodes, answered) for _ in range(bits)])
    goal = ("and", tuple([("letter", name) for name in states])) if bits > 1 and dice.random() < 0.4 else random_rule(
        dice, nodes, states)
    return (tuple([dice.random() < 0.3 for _ in range(bits)]), each_many, some_many, each_rule, some_rule, nexts, goal)


def random_games(seed, many, most_bits=4, nodes=5):
    dice = random.Random(seed)
    for _ in range(many):
        yield dice, random_game(dice, dice.randint(1, most_bits), dice.randint(0, 2), dice.randint(0, 2), nodes)
