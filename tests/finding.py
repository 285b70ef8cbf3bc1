"""A paper for any small sentence, found as [E3] tells it, so that tests have papers of all kinds."""

import random

from tests.making import behind_others, more_clauses, random_sentence, spread
from tests.plain import ordered, plain_dropped, plain_made, plain_met


class Finder:
    def __init__(self, sentence):
        self.owners, self.clauses = sentence
        self.steps = {"no": [], "yes": []}
        self.rows = {"no": [], "yes": []}

    def take(self, side, step, row):
        self.steps[side].append(step)
        self.rows[side].append(row)
        return self.drop(side, len(self.rows[side]) - 1)

    def drop(self, side, number):
        row = plain_dropped(self.owners, side, self.rows[side][number])
        if row == self.rows[side][number]:
            return side, number
        return self.take(side, ("drop", number), row)

    def leaf(self, play):
        """The side and number of a row that the play settles at once, None if there is none."""
        for place, clause in enumerate(self.clauses):
            unset = [literal for literal in clause if abs(literal) > len(play)]
            if not set(clause) & set(play) and all(self.owners[abs(literal) - 1] == "e" for literal in unset):
                return self.take("no", ("clause", place), clause)
        if all(set(clause) & set(play) for clause in self.clauses):
            lot = ordered({ordered(set(clause) & set(play))[0] for clause in self.clauses})
            return self.take("yes", ("lot", lot), lot)
        return None

    def settle(self, found, letter):
        """Whether a row told back settles the turn of this letter: it has none of its literals, or is a winner's."""
        side, number = found
        if not {letter, -letter} & set(self.rows[side][number]):
            return True
        return (side == "yes") == (self.owners[letter - 1] == "s")

    def go(self, play):
        found = self.leaf(play)
        if found is not None:
            return found
        letter = len(play) + 1
        one = self.go(play + (letter,))
        if self.settle(one, letter):
            return self.drop(*one)
        other = self.go(play + (-letter,))
        if self.settle(other, letter):
            return self.drop(*other)
        side = one[0]
        row = plain_met(self.rows[side][one[1]], self.rows[side][other[1]])
        return self.take(side, ("meet", one[1], other[1]), row)


def found_paper(sentence):
    """A paper of the sentence, told without trimming."""
    finder = Finder(sentence)
    side, _ = finder.go(())
    return (side, tuple(finder.steps[side]))


def small_papers(seed, many):
    """Sentences with papers of them, about as many of one side as of the other."""
    dice = random.Random(seed)
    left = {"no": many // 2, "yes": many // 2}
    while left["no"] or left["yes"]:
        letters = dice.randint(1, 6)
        sentence = random_sentence(dice, letters, dice.randint(1, 9), 3)
        paper = found_paper(sentence)
        if left[paper[0]]:
            left[paper[0]] -= 1
            yield dice, sentence, paper


def random_step(dice, first, rows):
    """A step that may be right or not, first being some that are."""
    word = dice.choice(("first", "drop", "meet", "meet", "meet"))
    if word == "first" or not rows:
        return dice.choice(first)
    return (word, *[dice.randrange(len(rows)) for _ in range(1 if word == "drop" else 2)])


def random_steps(dice, sentence, paper, many):
    """Right steps that make any rows, of the side of the paper, and these rows."""
    side = paper[0]
    first = [step for step in paper[1] if step[0] in ("clause", "lot")]
    if side == "no":
        first.extend([("clause", place) for place in range(len(sentence[1]))])
    steps, rows = [], []
    while len(steps) < many:
        step = random_step(dice, first, rows)
        row = plain_made(sentence, side, step, rows)
        if type(row) is tuple:
            steps.append(step)
            rows.append(row)
    return steps, rows


def long_papers(seed, many, steps):
    """Papers of some thousand steps, of sentences of up to sixty letters."""
    for dice, small, paper in small_papers(seed, many):
        sentence, carried = spread(dice, small, paper, dice.choice((7, 20, 59, 60)))
        if paper[0] == "no":
            sentence = more_clauses(dice, sentence, dice.choice((0, 10, 190 - len(sentence[1]))))
        ahead, _ = random_steps(dice, sentence, carried, steps)
        yield dice, sentence, behind_others(ahead, carried)


def rich_sentence(dice, letters, many, most=3):
    """A sentence of so many letters, of at most this many clauses, none of them ()."""
    owners, clauses = random_sentence(dice, letters, many, most)
    return (owners, tuple([clause for clause in clauses if clause]))


def rich_papers(seed, many, letters=6):
    """Sentences without the clause (), with papers that have a meet, as many of one side as of the other."""
    dice = random.Random(seed)
    left = {"no": many // 2, "yes": many // 2}
    while left["no"] or left["yes"]:
        sentence = rich_sentence(dice, dice.randint(2, letters), dice.randint(2, 12))
        paper = found_paper(sentence)
        if left[paper[0]] and any(step[0] == "meet" for step in paper[1]):
            left[paper[0]] -= 1
            yield dice, sentence, paper


def wide_papers(seed, many, steps):
    """Papers of some thousand steps, many of which speak of letters, of sentences of up to sixty letters."""
    for dice, small, paper in rich_papers(seed, many):
        sentence, carried = spread(dice, small, paper, dice.choice((6, 12, 40, 60)))
        if paper[0] == "no":
            sentence = more_clauses(dice, sentence, 30)
        else:
            carried = wider_lots(dice, sentence, carried)
        ahead, _ = random_steps(dice, sentence, carried, steps)
        yield dice, sentence, behind_others(ahead, carried)


def wider_lots(dice, sentence, paper):
    """The yes-paper with further lots ahead, which have many literals, all of one play."""
    lots = []
    for step in paper[1]:
        if step[0] == "lot":
            names = {abs(literal): literal for literal in step[1]}
            for letter in range(1, len(sentence[0]) + 1):
                if dice.random() < 0.3:
                    names.setdefault(letter, dice.choice((-1, 1)) * letter)
            lots.append(("lot", ordered(names.values())))
    return behind_others(lots, paper)


def rows_without_end(sentence, paper):
    """The paper told twice over, so that a row () comes ahead of the end, and steps stand there twice."""
    return behind_others(paper[1], paper)
