"""Papers while they are made: steps, one behind another, and the rows that they make."""

from eachsome.papers import trimmed
from eachsome.rows import dropped, met


class Draft:
    """Steps for a paper of one side; no row is made twice."""

    def __init__(self, owners, side):
        self.owners = owners
        self.side = side
        self.steps = []
        self.rows = []
        self.numbers = {}

    def put(self, step, row):
        """Return the number of the row that step makes; the step is left out if the row is there already."""
        # So a drop by which nothing goes is left out, too: it would be idle.
        if row not in self.numbers:
            self.numbers[row] = len(self.rows)
            self.steps.append(step)
            self.rows.append(row)
        return self.numbers[row]

    def shortened(self, number):
        """Return the number of what a drop makes of the row with this number."""
        return self.put(("drop", number), dropped(self.owners, self.side, self.rows[number]))

    def joined(self, one, other):
        """Return the number of what a meet makes of the rows with these numbers."""
        return self.put(("meet", one, other), met(self.rows[one], self.rows[other]))

    def paper(self, number):
        """Return the paper that ends with the row of this number, which is ()."""
        return trimmed((self.side, tuple(self.steps[:number + 1])))
