"""Finding out who wins a sentence, and a paper that tells it, by going down through its plays."""

from eachsome.drafts import Draft
from eachsome.errors import Unfit
from eachsome.meaning import check_size
from eachsome.papers import clauses_by_literal
from eachsome.rows import HOLDERS, dropped


def last_of_some(owners, clause):
    """Return the last letter of SOME's in the clause, 0 if there is none."""
    row = dropped(owners, "no", clause)
    return abs(row[-1]) if row else 0


class Field:
    """A sentence whose plays are gone through; many clauses at once are told by a number with a bit for each."""

    def __init__(self, sentence):
        self.owners, self.clauses = sentence
        self.having = clauses_by_literal(self.clauses)
        self.whole = (1 << len(self.clauses)) - 1
        # By how many letters are set: the clauses in which all further letters are EACH's.
        self.ended = [0] * (len(self.owners) + 1)
        for place, clause in enumerate(self.clauses):
            for many in range(last_of_some(self.owners, clause), len(self.owners) + 1):
                self.ended[many] = self.ended[many] | (1 << place)

    def behind(self, true, literal):
        """Return the clauses that are true behind the literal, true being those ahead of it."""
        return true | self.having.get(literal, 0)

    def some_wins(self, many, true):
        """Tell whether SOME wins from where so many letters are set and these clauses are true."""
        if true == self.whole:
            return True
        if self.ended[many] & ~true:
            return False
        letter = many + 1
        with_yes = self.some_wins(letter, self.behind(true, letter))
        # One literal settles it if it is good for the owner.
        if with_yes == (self.owners[many] == "s"):
            return with_yes
        return self.some_wins(letter, self.behind(true, -letter))

    def lot_of(self, play):
        """Return literals of the play, one at least for each clause; all clauses are true in it."""
        lot = []
        true = 0
        for literal in play:
            behind = self.behind(true, literal)
            if behind != true:
                lot.append(literal)
            true = behind
        return tuple(lot)

    def settled(self, drafts, play, true):
        """Return side and number of a row that settles the play at once, None if there is none."""
        lost = self.ended[len(play)] & ~true
        if lost:
            place = first_place(lost)
            return ("no", drafts["no"].put(("clause", place), self.clauses[place]))
        if true == self.whole:
            lot = self.lot_of(play)
            return ("yes", drafts["yes"].put(("lot", lot), lot))
        return None


def first_place(clauses):
    """Return the least place of the clauses that a number tells, not 0."""
    return (clauses & -clauses).bit_length() - 1


def has_letter(drafts, found, letter):
    """Tell whether the row that is found, whose letters are none beyond this one, has a literal of the letter."""
    side, number = found
    row = drafts[side].rows[number]
    return row != () and abs(row[-1]) == letter


def row_below(field, drafts, play, state):
    """Return side and number of a row of set letters that settles the play: untrue for "no", true for "yes".

    The field tells what settles plays at once, and what comes of its state by a literal.
    """
    found = field.settled(drafts, play, state)
    if found is not None:
        side, number = found
        return (side, drafts[side].shortened(number))
    letter = len(play) + 1
    one = row_below(field, drafts, play + (letter,), field.behind(state, letter))
    if not has_letter(drafts, one, letter):
        return one
    other = row_below(field, drafts, play + (-letter,), field.behind(state, -letter))
    if not has_letter(drafts, other, letter):
        return other
    # Behind its drop a row ends with a letter of the other party's: so both rows are of one side.
    side = one[0]
    number = drafts[side].joined(one[1], other[1])
    return (side, drafts[side].shortened(number))


def paper_from(field):
    """Return a paper of the sentence of the field, of the winner's side."""
    drafts = {side: Draft(field.owners, side) for side in HOLDERS}
    # Where no letter is set each field is in the state 0.
    side, number = row_below(field, drafts, (), 0)
    return drafts[side].paper(number)


def find(sentence):
    """Return a paper of the sentence, of the winner's side."""
    check_size(sentence)
    return paper_from(Field(sentence))


def decided(sentence):
    """Return "each" or "some", whoever wins the sentence."""
    check_size(sentence)
    return "some" if Field(sentence).some_wins(0, 0) else "each"


def core(sentence):
    """Return places of clauses by which EACH wins, and by no fewer of them."""
    check_size(sentence)
    field = Field(sentence)
    if field.some_wins(0, 0):
        raise Unfit()
    # A clause that is true from the first is as good as left out.
    out = 0
    for place in range(len(field.clauses)):
        fewer = out | (1 << place)
        if not field.some_wins(0, fewer):
            out = fewer
    return tuple([place for place in range(len(field.clauses)) if not out & (1 << place)])
