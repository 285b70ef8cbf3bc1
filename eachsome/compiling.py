"""Formulas compiled to sentences, and play of formulas, read off the papers of these sentences."""

from eachsome.bounds import MAX_CLAUSES, MAX_LETTERS, MAX_SEARCH
from eachsome.errors import TooMany
from eachsome.formulas import JOINING
from eachsome.prenexes import lowered, prenex
from eachsome.replies import followed_to, reply
from eachsome.search import paper_from
from eachsome.sentences import clause_of
from eachsome.truths import in_all, in_some, worlds_of

OWNERS = {"each": "e", "some": "s"}


def put_gates(gates, node, count):
    """Put a gate for each "and" and "or" in the node behind those there are; return the literal of the node.

    A gate is a pair: the word of its node, and the literals of its parts. Helpers are numbered from count on.
    """
    if node[0] == "letter":
        # Fresh names are "v" and the number of their quantifier.
        return int(node[1][1:])
    if node[0] not in JOINING:
        return -put_gates(gates, node[1], count)
    place = len(gates)
    # Its place is taken ahead of those of its parts.
    gates.append(None)
    gates[place] = (node[0], tuple([put_gates(gates, part, count) for part in node[1]]))
    return count + 1 + place


class Circuit:
    """What a formula is compiled to: the gates of its lowered matrix, and the clauses that they make."""

    def __init__(self, formula):
        quantifiers, matrix = prenex(formula)
        self.count = len(quantifiers)
        self.gates = []
        self.top = put_gates(self.gates, lowered(matrix), self.count)
        if self.count + len(self.gates) > MAX_LETTERS:
            raise TooMany(MAX_LETTERS)
        self.owners = "".join([OWNERS[word] for word, _ in quantifiers]) + "s" * len(self.gates)
        self.places = {}
        for literals in self.told_clauses():
            if not any([-literal in literals for literal in literals]):
                self.places.setdefault(clause_of(literals), len(self.places))
        if len(self.places) > MAX_CLAUSES:
            raise TooMany(MAX_CLAUSES)

    def told_clauses(self):
        """Return the tuples of literals of all clauses, in order; some of them may have to be left out."""
        told = [(self.top,)]
        for place, (word, parts) in enumerate(self.gates):
            helper = self.count + 1 + place
            if word == "and":
                told.extend([(-helper, part) for part in parts])
            else:
                told.append((-helper, *parts))
        return told

    def is_helper(self, literal):
        """Tell whether the literal is a helper."""
        return literal > self.count

    def gate_of(self, helper):
        """Return the gate of a helper."""
        return self.gates[helper - self.count - 1]

    def helper_masks(self, masks, size):
        """Return in which of size worlds each literal is true, masks telling it of the quantifiers' letters."""
        found = {}
        for letter, worlds in masks.items():
            found[letter] = worlds
            found[-letter] = worlds ^ ((1 << size) - 1)
        # Parts stand behind what they are parts of, so they come first here.
        for place in reversed(range(len(self.gates))):
            word, parts = self.gates[place]
            worlds = [found[part] for part in parts]
            found[self.count + 1 + place] = in_all(worlds, size) if word == "and" else in_some(worlds)
        return found


def compiled(formula):
    """Return the sentence that the formula is compiled to, and how many letters are those of quantifiers."""
    circuit = Circuit(formula)
    return ((circuit.owners, tuple(circuit.places)), circuit.count)


def play_of(flags):
    """Return the play in which the first letters are set as the flags tell."""
    return tuple([place + 1 if flag else -place - 1 for place, flag in enumerate(flags)])


def helper_play(formula, settings):
    """Return the whole play in which the quantifiers' letters are set so, and each helper as its node holds."""
    circuit = Circuit(formula)
    masks = circuit.helper_masks({place + 1: 1 if flag else 0 for place, flag in enumerate(settings)}, 1)
    return play_of([masks[letter + 1] == 1 for letter in range(len(circuit.owners))])


class Settings:
    """The settings of all quantifiers of a circuit: the field of the search for its paper.

    A state is the number of the first world in which the letters are set as in the play.
    """

    def __init__(self, circuit):
        self.circuit = circuit
        self.owners = circuit.owners
        masks, size = worlds_of(list(range(1, circuit.count + 1)))
        self.masks = circuit.helper_masks(masks, size)

    def is_true(self, literal, world):
        """Tell whether the literal is true in the world."""
        return self.masks[literal] & (1 << world) != 0

    def behind(self, world, literal):
        """Return the first world in which the literal is true besides, world being that ahead of it."""
        return world if literal > 0 else world + (1 << (self.circuit.count + literal))

    def settled(self, drafts, play, world):
        """Return side and number of a row that settles a play of all quantifiers, None if it is none."""
        if len(play) < self.circuit.count:
            return None
        top = self.circuit.top
        if self.is_true(top, world):
            lot = self.lot_of(world)
            return ("yes", drafts["yes"].put(("lot", lot), lot))
        draft = drafts["no"]
        number = self.put_clause(draft, (top,))
        if self.circuit.is_helper(top):
            number = draft.joined(self.put_untrue(draft, top, world), number)
        return ("no", number)

    def put_clause(self, draft, clause):
        """Return the number of the row of a clause."""
        return draft.put(("clause", self.circuit.places[clause]), clause)

    def put_untrue(self, draft, helper, world):
        """Return the number of a row of the contrary of a helper that does not hold, and of untrue literals.

        These are literals of quantifiers alone.
        """
        word, parts = self.circuit.gate_of(helper)
        if word == "and":
            parts = [part for part in parts if not self.is_true(part, world)][:1]
        number = self.put_clause(draft, clause_of((-helper, *parts)))
        for part in parts:
            if self.circuit.is_helper(part):
                number = draft.joined(self.put_untrue(draft, part, world), number)
        return number

    def lot_of(self, world):
        """Return a lot of literals that are true, or no helpers for whatever the whole does not need to hold."""
        needed = {}
        self.put_needed(needed, self.circuit.top, world)
        for helper in range(self.circuit.count + 1, len(self.owners) + 1):
            if helper not in needed:
                needed[-helper] = True
        return clause_of(tuple(needed))

    def put_needed(self, needed, literal, world):
        """Put a literal that is true, and such as are enough to make it true, among the keys of needed."""
        needed[literal] = True
        if self.circuit.is_helper(literal):
            word, parts = self.circuit.gate_of(literal)
            if word == "or":
                parts = [part for part in parts if self.is_true(part, world)][:1]
            for part in parts:
                self.put_needed(needed, part, world)


def formula_paper(formula):
    """Return a paper of the sentence that the formula is compiled to."""
    circuit = Circuit(formula)
    if circuit.count > MAX_SEARCH:
        raise TooMany(MAX_SEARCH)
    return paper_from(Settings(circuit))


def formula_solved(formula):
    """Return whether the formula holds, and a paper that tells it."""
    paper = formula_paper(formula)
    return (paper[0] == "yes", paper)


def formula_reply(formula, found, settings):
    """Return the bool by which the holder sets the next quantifier, read off the paper that was found."""
    sentence, _ = compiled(formula)
    return reply(sentence, found[1], play_of(settings)) > 0


def formula_followed(formula, found, others):
    """Return the settings in which the other party sets its quantifiers by others, and the holder by the paper."""
    sentence, count = compiled(formula)
    return tuple([literal > 0 for literal in followed_to(sentence, found[1], others, count)])
