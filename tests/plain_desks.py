"""What [L1] to [L4] tell of desks, as plainly as can be: each answer is worked out anew from the edits."""

from eachsome.errors import (
    BadLog, GameError, NothingToRedo, NothingToUndo, NoVersion, Taken, TooMany, TooManyEdits, Unfit,
)
from eachsome.meaning import winner
from tests.plain import plain_play_error, plain_row, whole_number


def settled_by(known, who, sentence):
    if known[0] != sentence[0][:len(known[0])]:
        return False
    if who == "each":
        return set(known[1]) <= set(sentence[1])
    return set(sentence[1]) <= set(known[1])


class PlainDesk:
    def __init__(self, owners):
        if type(owners) is not str or len(owners) > 12 or set(owners) - {"e", "s"}:
            raise Unfit()
        self.owners = owners
        self.edits = []
        self.undone = []
        self.searched = []

    def at(self, version):
        if not whole_number(version) or version not in range(len(self.edits) + 1):
            raise NoVersion(version)
        owners, clauses = self.owners, []
        for word, given in self.edits[:version]:
            if word == "put":
                clauses.append(given)
            elif word == "drop":
                clauses.pop(given)
            else:
                owners += given
        return owners, tuple(clauses)

    @property
    def sentence(self):
        return self.at(len(self.edits))

    @property
    def version(self):
        return len(self.edits)

    @property
    def log(self):
        return tuple(self.edits)

    @property
    def found(self):
        return len(self.searched)

    def edit(self, word, given):
        if len(self.edits) == 40:
            raise TooManyEdits()
        self.edits.append((word, given))
        self.undone = []
        return len(self.edits)

    def put(self, clause):
        owners, clauses = self.sentence
        if not plain_row(clause, len(owners)):
            raise Unfit()
        if clause in clauses:
            raise Taken(clause)
        return self.edit("put", clause)

    def drop(self, place):
        if not whole_number(place) or place not in range(len(self.sentence[1])):
            raise Unfit()
        return self.edit("drop", place)

    def letter(self, owner):
        if type(owner) is not str or owner not in ("e", "s"):
            raise Unfit()
        if len(self.sentence[0]) == 12:
            raise TooMany(12)
        return self.edit("letter", owner)

    def who(self):
        sentence = self.sentence
        told = winner(sentence, ())
        if not any([settled_by(known, who, sentence) for known, who in self.searched]):
            self.searched.append((sentence, told))
        return told

    def check_reply(self, play):
        """Raise what reply raises."""
        owners, _ = self.sentence
        if plain_play_error(len(owners), play) is not None or len(play) == len(owners):
            raise Unfit()
        if {"e": "each", "s": "some"}[owners[len(play)]] != self.who():
            raise Unfit()

    def undo(self):
        if not self.edits:
            raise NothingToUndo()
        self.undone.append(self.edits.pop())
        return len(self.edits)

    def redo(self):
        if not self.undone:
            raise NothingToRedo()
        self.edits.append(self.undone.pop())
        return len(self.edits)

    def copy(self):
        other = PlainDesk(self.owners)
        other.edits, other.undone, other.searched = list(self.edits), list(self.undone), list(self.searched)
        return other


def plain_desk_behind(owners, log):
    desk = PlainDesk(owners)
    if type(log) is not tuple:
        raise BadLog(0)
    for place, item in enumerate(log):
        if type(item) is not tuple or len(item) != 2 or type(item[0]) is not str or item[0] not in ("put", "drop", "letter"):
            raise BadLog(place)
        try:
            {"put": desk.put, "drop": desk.drop, "letter": desk.letter}[item[0]](item[1])
        except GameError:
            raise BadLog(place) from None
    return desk
