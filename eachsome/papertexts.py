"""Texts of papers, for whatever sentence."""

from eachsome.bounds import MAX_CLAUSES, MAX_LETTERS, MAX_STEPS
from eachsome.errors import BadText
from eachsome.numerals import read_literal, read_number
from eachsome.sentences import is_clause

SIDE_BY_HEAD = {"no:": "no", "yes:": "yes"}


def step_text(step):
    """Return the text of a step."""
    numbers = step[1] if step[0] == "lot" else step[1:]
    return step[0][0] + ",".join([str(number) for number in numbers])


def paper_text(paper):
    """Return the text of a loose paper."""
    side, steps = paper
    return side + ":" + "".join([" " + step_text(step) for step in steps])


def read_row(text):
    """Return the row whose literals text tells; raise BadText if there is none."""
    words = text.split(",") if text else []
    row = tuple([read_literal(word, MAX_LETTERS) for word in words])
    if not is_clause(row, MAX_LETTERS):
        raise BadText()
    return row


def read_row_number(text):
    """Return the number of a row that text tells; raise BadText if there is none."""
    return read_number(text, MAX_STEPS - 1)


def read_step(side, text):
    """Return the step of a paper of this side of which text is the text; raise BadText if there is none."""
    sign, told = text[:1], text[1:]
    if sign == "c" and side == "no":
        return ("clause", read_number(told, MAX_CLAUSES - 1))
    if sign == "l" and side == "yes":
        return ("lot", read_row(told))
    if sign == "d":
        return ("drop", read_row_number(told))
    if sign == "m":
        one, _, other = told.partition(",")
        return ("meet", read_row_number(one), read_row_number(other))
    raise BadText()


def read_paper(value):
    """Return the loose paper of which value is the text; raise BadText if there is none."""
    if not isinstance(value, str):
        raise BadText()
    words = value.split(" ")
    side = SIDE_BY_HEAD.get(words[0])
    if side is None or not 2 <= len(words) <= MAX_STEPS + 1:
        raise BadText()
    return (side, tuple([read_step(side, word) for word in words[1:]]))
