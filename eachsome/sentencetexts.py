"""Texts of sentences."""

from eachsome.bounds import MAX_LETTERS
from eachsome.errors import BadText
from eachsome.numerals import read_literal
from eachsome.sentences import sentence_error


def clause_text(clause):
    """Return the text of a clause."""
    return "".join([f" {literal}" for literal in clause]) + ";"


def sentence_text(sentence):
    """Return the text of a sentence."""
    owners, clauses = sentence
    return owners + ":" + "".join([clause_text(clause) for clause in clauses])


def read_clause(text):
    """Return the tuple of the literals in text, what stands ahead of the first blank left out."""
    return tuple([read_literal(word, MAX_LETTERS) for word in text.split(" ")[1:]])


def read_sentence(value):
    """Return the sentence of which value is the text; raise BadText if there is none."""
    if not isinstance(value, str):
        raise BadText()
    owners, _, told = value.partition(":")
    sentence = (owners, tuple([read_clause(text) for text in told.split(";")[:-1]]))
    # The reading takes more than the texts there are: writing it again finds what was not right.
    if sentence_error(sentence) is not None or sentence_text(sentence) != value:
        raise BadText()
    return sentence
