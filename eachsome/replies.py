"""What the holder of a paper answers at each turn, read off the paper."""

from eachsome.errors import Unfit
from eachsome.papers import rows_of
from eachsome.rows import HOLDERS
from eachsome.sentences import owner_of


def drops_of(sentence, paper):
    """Return a triple for each drop, in order: its place, its row behind, and the literals that went by it."""
    rows = rows_of(sentence, paper)
    drops = [(place, step[1]) for place, step in enumerate(paper[1]) if step[0] == "drop"]
    # What goes by a drop is the end of the row.
    return [(place, rows[place], rows[ahead][len(rows[place]):]) for place, ahead in drops]


def rules_about(side, drops, letter):
    """Return a triple for each drop that speaks of the letter: its place, its row behind, the answer that it tells."""
    wanted = letter if side == "yes" else -letter
    rules = []
    for place, row, gone in drops:
        if wanted in gone:
            rules.append((place, row, letter))
        elif -wanted in gone:
            rules.append((place, row, -letter))
    return rules


def fits(side, row, play):
    """Tell whether the play makes all literals of row untrue (no-paper), or true (yes-paper)."""
    sign = 1 if side == "yes" else -1
    return all([play[abs(literal) - 1] == sign * literal for literal in row])


def first_rule(side, drops, play):
    """Return the first rule about the next letter that fits the play, None if there is none."""
    for rule in rules_about(side, drops, len(play) + 1):
        if fits(side, rule[1], play):
            return rule
    return None


def answer_to(side, drops, play):
    """Return the answer that the drops tell at the play."""
    rule = first_rule(side, drops, play)
    return len(play) + 1 if rule is None else rule[2]


def check_turn(sentence, side, play):
    """Raise Unfit if it is not the turn of the holder of this side."""
    if owner_of(sentence, len(play) + 1) != HOLDERS[side]:
        raise Unfit()


def why(sentence, paper, play):
    """Return the place of the step that tells the holder's answer, None if there is none."""
    check_turn(sentence, paper[0], play)
    rule = first_rule(paper[0], drops_of(sentence, paper), play)
    return None if rule is None else rule[0]


def reply(sentence, paper, play):
    """Return the literal that the holder of the paper answers."""
    check_turn(sentence, paper[0], play)
    return answer_to(paper[0], drops_of(sentence, paper), play)


def followed_to(sentence, paper, others, many):
    """Return the play of the first letters, so many, in which the other party sets its own by others."""
    side = paper[0]
    drops = drops_of(sentence, paper)
    play = ()
    used = 0
    for place, owner in enumerate(sentence[0][:many]):
        if owner == HOLDERS[side]:
            play = play + (answer_to(side, drops, play),)
        else:
            play = play + (place + 1 if others[used] else -place - 1,)
            used += 1
    return play


def followed(sentence, paper, others):
    """Return the whole play in which the other party sets its letters by others, and the holder by the paper."""
    return followed_to(sentence, paper, others, len(sentence[0]))
