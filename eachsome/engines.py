"""Solving any sentence by the engine that fits it, and the moves of whoever wins."""

from eachsome.answers import answers_reply
from eachsome.bounds import MAX_SEARCH
from eachsome.carrying import answers_carried, carried
from eachsome.errors import TooMany
from eachsome.horns import horn_solved, is_horn
from eachsome.lessening import lessened
from eachsome.replies import reply
from eachsome.search import find
from eachsome.squeezing import answers_unsqueezed, squeezed, unsqueezed
from eachsome.twos import two_solved
from eachsome.webs import has_short_clauses


def engine_of(sentence):
    """Return "two", "horn", "search" or "none", the first one that fits the sentence."""
    if has_short_clauses(sentence):
        return "two"
    if is_horn(sentence):
        return "horn"
    return "search" if len(sentence[0]) <= MAX_SEARCH else "none"


def evidence_of(sentence):
    """Return evidence of the sentence, found by its own engine."""
    engine = engine_of(sentence)
    if engine == "none":
        raise TooMany(MAX_SEARCH)
    if engine == "search":
        return find(sentence)
    return two_solved(sentence)[1] if engine == "two" else horn_solved(sentence)[1]


def is_paper(evidence):
    """Tell whether evidence is a paper; otherwise it is plain answers, perhaps ()."""
    return evidence != () and isinstance(evidence[0], str)


def solved(sentence):
    """Return who wins the sentence, "some" or "each", and evidence of it."""
    lesser, steps = lessened(sentence)
    found = evidence_of(squeezed(lesser)[0])
    if not is_paper(found):
        return ("some", answers_carried(sentence, steps, answers_unsqueezed(lesser, found)))
    who = "each" if found[0] == "no" else "some"
    return (who, carried(sentence, steps, unsqueezed(lesser, found)))


def move_of(sentence, evidence, play):
    """Return the literal by which the next letter is set by the party whose evidence this is."""
    return reply(sentence, evidence, play) if is_paper(evidence) else answers_reply(evidence, play)
