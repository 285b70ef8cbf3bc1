"""Desks: a sentence that is changed by edits, and what was found out on the way."""

from eachsome.bounds import MAX_EDITS, MAX_SEARCH
from eachsome.errors import (
    BadLog, GameError, NothingToRedo, NothingToUndo, NoVersion, Taken, TooMany, TooManyEdits, Unfit,
)
from eachsome.plays import play_error
from eachsome.replies import reply
from eachsome.search import find
from eachsome.sentences import is_clause, is_number, is_owners, less


def settles(known, sentence):
    """Tell whether what is known, a searched sentence and its paper, settles the sentence."""
    (owners, clauses), paper = known
    if not sentence[0].startswith(owners):
        return False
    fewer, more = (clauses, sentence[1]) if paper[0] == "no" else (sentence[1], clauses)
    return all([clause in more for clause in fewer])


def paper_for(known, sentence):
    """Return the paper that is known as a paper of the sentence that it settles."""
    (_, clauses), (side, steps) = known
    told = []
    for step in steps:
        told.append(("clause", sentence[1].index(clauses[step[1]])) if step[0] == "clause" else step)
    return (side, tuple(told))


class Desk:
    """A sentence that is changed by edits; searches are kept, so that what they settle is not searched anew."""

    def __init__(self, owners):
        if not is_owners(owners) or len(owners) > MAX_SEARCH:
            raise Unfit()
        # The sentence of each version, the first one ahead of all edits.
        self._stages = [(owners, ())]
        self._edits = []
        # Pairs of edit and sentence behind it, the one that was taken back last behind all others.
        self._undone = []
        # Pairs of sentence and paper, in the order of the searches.
        self._searched = []

    def __eq__(self, other):
        return isinstance(other, Desk) and self._stages[-1] == other._stages[-1]

    @property
    def sentence(self):
        """Return the sentence."""
        return self._stages[-1]

    @property
    def version(self):
        """Return how many edits stand."""
        return len(self._edits)

    @property
    def log(self):
        """Return the tuple of the edits that stand."""
        return tuple(self._edits)

    @property
    def found(self):
        """Return how many sentences were searched."""
        return len(self._searched)

    def _edited(self, edit, sentence):
        """Let the edit stand, the sentence being the one behind it; return the version."""
        if len(self._edits) >= MAX_EDITS:
            raise TooManyEdits()
        self._edits.append(edit)
        self._stages.append(sentence)
        self._undone = []
        return len(self._edits)

    def put(self, clause):
        """Put the clause behind all others; return the version."""
        owners, clauses = self._stages[-1]
        if not is_clause(clause, len(owners)):
            raise Unfit()
        if clause in clauses:
            raise Taken(clause)
        return self._edited(("put", clause), (owners, clauses + (clause,)))

    def drop(self, place):
        """Take the clause at this place out; return the version."""
        sentence = self._stages[-1]
        if not is_number(place) or not 0 <= place < len(sentence[1]):
            raise Unfit()
        return self._edited(("drop", place), less(sentence, (place,)))

    def letter(self, owner):
        """Put a letter of this owner behind all others; return the version."""
        owners, clauses = self._stages[-1]
        if owner not in ("e", "s"):
            raise Unfit()
        if len(owners) >= MAX_SEARCH:
            raise TooMany(MAX_SEARCH)
        return self._edited(("letter", owner), (owners + owner, clauses))

    def _known(self):
        """Return the first searched sentence that settles the sentence, and its paper; search if there is none."""
        sentence = self._stages[-1]
        for known in self._searched:
            if settles(known, sentence):
                return known
        self._searched.append((sentence, find(sentence)))
        return self._searched[-1]

    def who(self):
        """Return "each" or "some", whoever wins the sentence."""
        return "each" if self._known()[1][0] == "no" else "some"

    def paper(self):
        """Return a paper of the sentence."""
        return paper_for(self._known(), self._stages[-1])

    def reply(self, play):
        """Return the literal that the winner answers at the play."""
        sentence = self._stages[-1]
        if play_error(sentence, play) is not None or len(play) == len(sentence[0]):
            raise Unfit()
        return reply(sentence, self.paper(), play)

    def undo(self):
        """Take back the last edit that stands; return the version."""
        if not self._edits:
            raise NothingToUndo()
        self._undone.append((self._edits.pop(), self._stages.pop()))
        return len(self._edits)

    def redo(self):
        """Do again the edit that was taken back last; return the version."""
        if not self._undone:
            raise NothingToRedo()
        edit, sentence = self._undone.pop()
        self._edits.append(edit)
        self._stages.append(sentence)
        return len(self._edits)

    def at(self, version):
        """Return the sentence when so many edits stood."""
        if not is_number(version) or not 0 <= version <= len(self._edits):
            raise NoVersion(version)
        return self._stages[version]

    def copy(self):
        """Return a desk with all that this one has."""
        other = Desk("")
        other._stages = list(self._stages)
        other._edits = list(self._edits)
        other._undone = list(self._undone)
        other._searched = list(self._searched)
        return other


def do_edit(desk, word, argument):
    """Do the edit of this word on the desk."""
    if word == "put":
        desk.put(argument)
    elif word == "drop":
        desk.drop(argument)
    elif word == "letter":
        desk.letter(argument)
    else:
        raise Unfit()


def desk_behind(owners, log):
    """Return a new desk on which all edits of the log were done."""
    desk = Desk(owners)
    if not isinstance(log, tuple):
        raise BadLog(0)
    for place, item in enumerate(log):
        if not isinstance(item, tuple) or len(item) != 2:
            raise BadLog(place)
        try:
            do_edit(desk, item[0], item[1])
        except GameError:
            raise BadLog(place) from None
    return desk
