"""Turn games told as formulas, and their moves, read off papers."""

from eachsome.compiling import compiled, formula_paper, play_of
from eachsome.errors import Unfit
from eachsome.formulas import check_size, joined_size, parts_of, size_of, with_parts
from eachsome.replies import reply
from eachsome.turngames import moved, names_of


def put_in(formula, given):
    """Return the plain formula with what is given for each name in the place of its letters."""
    if formula[0] == "letter":
        return given[formula[1]]
    return with_parts(formula, [put_in(part, given) for part in parts_of(formula)])


def letters_of_round(number, sign, many):
    """Return the tuple of the letters of a round whose names have this sign, so many."""
    return tuple([("letter", f"r{number}{name}") for name in names_of(sign, many)])


def behind_all(word, letters, formula):
    """Return the formula behind an "each" or "some", as word tells, of each of the letters."""
    for _, name in reversed(letters):
        formula = (word, name, formula)
    return formula


def size_left(game, left):
    """Return the size of what round_formula makes where so many rounds are left."""
    start, each_many, some_many, each_rule, some_rule, nexts, goal = game
    if left == 0:
        return size_of(goal)
    sames = [joined_size([(1, 1), size_of(formula)], 1, 1) for formula in nexts]
    later = joined_size(sames + [size_left(game, left - 1)], len(start) + 1, len(start) + 1)
    answered = joined_size([size_of(some_rule), later], some_many + 1, some_many + 1)
    allowed = joined_size([size_of(each_rule)], 1, 1)
    chosen = joined_size([allowed, answered], each_many + 1, each_many + 1)
    return joined_size([size_of(goal), chosen], 1, 1)


def round_formula(game, number, state, left):
    """Return the formula of the rounds from this number on, at a state of these formulas, so many being left."""
    start, each_many, some_many, each_rule, some_rule, nexts, goal = game
    given = {f"s{place}": formula for place, formula in enumerate(state)}
    if left == 0:
        return put_in(goal, given)
    choice = letters_of_round(number, "e", each_many)
    answer = letters_of_round(number, "m", some_many)
    later = letters_of_round(number + 1, "s", len(start))
    for sign, letters in (("e", choice), ("m", answer)):
        for place, letter in enumerate(letters):
            given[f"{sign}{place}"] = letter
    sames = [("same", letter, put_in(formula, given)) for letter, formula in zip(later, nexts)]
    rest = behind_all("some", later, ("and", (*sames, round_formula(game, number + 1, later, left - 1))))
    rest = behind_all("some", answer, ("and", (put_in(some_rule, given), rest)))
    rest = behind_all("each", choice, ("or", (("not", put_in(each_rule, given)), rest)))
    return ("or", (put_in(goal, given), rest))


def unrolled(game, rounds):
    """Return the closed formula that holds just if SOME can force the goal within so many rounds."""
    check_size(size_left(game, rounds))
    start = tuple([("and", ()) if bit else ("or", ()) for bit in game[0]])
    return round_formula(game, 0, start, rounds)


def game_paper(game, rounds):
    """Return a paper of the sentence that the formula of the game is compiled to."""
    return formula_paper(unrolled(game, rounds))


def settings_of(game, history):
    """Return the settings of the first quantifiers: the choices of history, and the states that came by them."""
    settings = ()
    state = game[0]
    for place, chosen in enumerate(history):
        settings = settings + chosen
        if place & 1:
            state = moved(game, state, history[place - 1], chosen)
            settings = settings + state
    return settings


def game_move(game, rounds, paper, history):
    """Return the choice that the holder of the paper makes behind this history."""
    turn = "yes" if len(history) & 1 else "no"
    if paper[0] != turn or len(history) == 2 * rounds:
        raise Unfit()
    sentence, _ = compiled(unrolled(game, rounds))
    play = play_of(settings_of(game, history))
    ahead = len(play)
    for _ in range(game[2] if turn == "yes" else game[1]):
        play = play + (reply(sentence, paper, play),)
    return tuple([literal > 0 for literal in play[ahead:]])
