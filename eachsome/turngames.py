"""Turn games: in each round EACH chooses, then SOME does, and the state becomes another one."""

from eachsome.bounds import MAX_BITS
from eachsome.formulas import formula_error, free_names, is_plain
from eachsome.sentences import is_number
from eachsome.truths import holds

MOST_CHOSEN = 2


def is_state(value):
    """Tell whether value is a state."""
    return isinstance(value, tuple) and 1 <= len(value) <= MAX_BITS and all([isinstance(bit, bool) for bit in value])


def is_many(value):
    """Tell whether value tells how many bits a party may choose."""
    return is_number(value) and 0 <= value <= MOST_CHOSEN


def names_of(sign, many):
    """Return the list of the names with this sign ahead, so many."""
    return [f"{sign}{number}" for number in range(many)]


def is_rule(value, names):
    """Tell whether value is a formula without "each" and "some", and with these names alone."""
    if formula_error(value) is not None or not is_plain(value):
        return False
    return all([name in names for name in free_names(value)])


def next_fault(value, bits, names):
    """Return the first place of value at which no formula of a bit stands, None if there is a right one for each."""
    if not isinstance(value, tuple) or len(value) != bits:
        return bits
    for place, formula in enumerate(value):
        if not is_rule(formula, names):
            return place
    return None


def game_error(value):
    """Return None for a game, otherwise what is wrong with value."""
    if not isinstance(value, tuple) or len(value) != 7:
        return "form"
    start, each_many, some_many, each_rule, some_rule, nexts, goal = value
    if not is_state(start):
        return "start"
    if not is_many(each_many) or not is_many(some_many):
        return "many"
    states = names_of("s", len(start))
    chosen = states + names_of("e", each_many)
    if not is_rule(each_rule, chosen):
        return "each_rule"
    answered = chosen + names_of("m", some_many)
    if not is_rule(some_rule, answered):
        return "some_rule"
    place = next_fault(nexts, len(start), answered)
    if place is not None:
        return ("next", place)
    return None if is_rule(goal, states) else "goal"


def all_flags(many):
    """Return the list of all tuples of so many bools, ascending."""
    found = [()]
    for _ in range(many):
        found = [flags + (flag,) for flags in found for flag in (False, True)]
    return found


def world_of(state, choice, answer):
    """Return the world of a state and of what EACH and SOME chose."""
    world = {}
    for sign, flags in (("s", state), ("e", choice), ("m", answer)):
        for number, flag in enumerate(flags):
            world[f"{sign}{number}"] = flag
    return world


def each_choices(game, state):
    """Return the tuple of all choices that EACH may make at the state, ascending."""
    return tuple([choice for choice in all_flags(game[1]) if holds(game[3], world_of(state, choice, ()))])


def some_choices(game, state, choice):
    """Return the tuple of all choices that SOME may make behind EACH's choice, ascending."""
    return tuple([answer for answer in all_flags(game[2]) if holds(game[4], world_of(state, choice, answer))])


def moved(game, state, choice, answer):
    """Return the state behind both choices."""
    world = world_of(state, choice, answer)
    return tuple([holds(formula, world) for formula in game[5]])


def reached_by(game, state):
    """Return for each choice that EACH may make at the state the list of all states that SOME can bring about."""
    reached = []
    for choice in each_choices(game, state):
        reached.append([moved(game, state, choice, answer) for answer in some_choices(game, state, choice)])
    return reached


def can_force(game, state, rounds):
    """Tell whether SOME can bring about the goal within so many rounds."""
    states = all_flags(len(state))
    wanted = {one: holds(game[6], world_of(one, (), ())) for one in states}
    reached = {one: reached_by(game, one) if rounds else [] for one in states}
    forced = wanted
    for _ in range(rounds):
        # Of one round more each time.
        forced = {
            one: wanted[one] or all([any([forced[other] for other in others]) for others in reached[one]])
            for one in states
        }
    return forced[state]
