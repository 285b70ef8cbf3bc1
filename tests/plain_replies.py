"""What [D] tells of answers, as plainly as can be."""

from tests.plain import holder_letters, plain_judged


def speaking(sentence, paper):
    """For each drop of the paper its place, the rows ahead and behind, as lists."""
    rows = plain_judged(sentence, paper)[1]
    return [(place, list(rows[step[1]]), list(rows[place])) for place, step in enumerate(paper[1]) if step[0] == "drop"]


def plain_told(sentence, paper, play, spoken=None):
    """The place and the answer of the first drop that speaks of the next letter and fits; (None, the letter) if none."""
    side = paper[0]
    letter = len(play) + 1
    for place, ahead, behind in speaking(sentence, paper) if spoken is None else spoken:
        gone = [literal for literal in ahead if literal in (letter, -letter) and literal not in behind]
        there = [literal if side == "yes" else -literal for literal in behind]
        if gone and all(literal in play for literal in there):
            return place, gone[0] if side == "yes" else -gone[0]
    return None, letter


def plain_turn(sentence, paper, play):
    """Whether the next letter is that of the holder of the paper."""
    return len(play) + 1 in holder_letters(sentence[0], paper[0])


def plain_followed(sentence, paper, others):
    left = list(others)
    play = ()
    spoken = speaking(sentence, paper)
    while len(play) < len(sentence[0]):
        if plain_turn(sentence, paper, play):
            play += (plain_told(sentence, paper, play, spoken)[1],)
        else:
            play += (len(play) + 1 if left.pop(0) else -len(play) - 1,)
    return play
