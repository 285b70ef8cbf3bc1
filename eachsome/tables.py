"""Tables: what a paper answers, told for each letter of the holder."""

from eachsome.errors import Unfit
from eachsome.replies import drops_of, fits, rules_about
from eachsome.rows import HOLDERS
from eachsome.sentences import letters_of


def table_of(sentence, paper):
    """Return the table of the holder of the paper."""
    side = paper[0]
    drops = drops_of(sentence, paper)
    table = []
    for letter in letters_of(sentence, HOLDERS[side]):
        rules = tuple([(row, answer) for _, row, answer in rules_about(side, drops, letter)])
        table.append((letter, side, rules))
    return tuple(table)


def table_reply(table, play):
    """Return the literal that the holder answers, by the table alone."""
    for letter, side, rules in table:
        if letter == len(play) + 1:
            answers = [answer for row, answer in rules if fits(side, row, play)]
            return answers[0] if answers else letter
    raise Unfit()
