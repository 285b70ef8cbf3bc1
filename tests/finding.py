"""A paper for any small sentence, found as [E3] tells it, so that tests have papers of all kinds."""

from tests.plain import ordered, plain_dropped, plain_met


class Finder:
    def __init__(self, sentence):
        self.owners, self.clauses = sentence
        self.steps = {"no": [], "yes": []}
        self.rows = {"no": [], "yes": []}

    def take(self, side, step, row):
        self.steps[side].append(step)
        self.rows[side].append(row)
        return self.drop(side, len(self.rows[side]) - 1)

    def drop(self, side, number):
        row = plain_dropped(self.owners, side, self.rows[side][number])
        if row == self.rows[side][number]:
            return side, number
        return self.take(side, ("drop", number), row)

    def leaf(self, play):
        """The side and number of a row that the play settles at once, None if there is none."""
        for place, clause in enumerate(self.clauses):
            unset = [literal for literal in clause if abs(literal) > len(play)]
            if not set(clause) & set(play) and all(self.owners[abs(literal) - 1] == "e" for literal in unset):
                return self.take("no", ("clause", place), clause)
        if all(set(clause) & set(play) for clause in self.clauses):
            lot = ordered({ordered(set(clause) & set(play))[0] for clause in self.clauses})
            return self.take("yes", ("lot", lot), lot)
        return None

    def settle(self, found, letter):
        """Whether a row told back settles the turn of this letter: it has none of its literals, or is a winner's."""
        side, number = found
        if not {letter, -letter} & set(self.rows[side][number]):
            return True
        return (side == "yes") == (self.owners[letter - 1] == "s")

    def go(self, play):
        found = self.leaf(play)
        if found is not None:
            return found
        letter = len(play) + 1
        one = self.go(play + (letter,))
        if self.settle(one, letter):
            return self.drop(*one)
        other = self.go(play + (-letter,))
        if self.settle(other, letter):
            return self.drop(*other)
        side = one[0]
        row = plain_met(self.rows[side][one[1]], self.rows[side][other[1]])
        return self.take(side, ("meet", one[1], other[1]), row)


def found_paper(sentence):
    """A paper of the sentence, told without trimming."""
    finder = Finder(sentence)
    side, _ = finder.go(())
    return (side, tuple(finder.steps[side]))
