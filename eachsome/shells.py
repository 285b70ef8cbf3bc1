"""A shell: lines that are told to a desk, and what is said to them."""

from eachsome.bounds import MAX_LETTERS
from eachsome.compiling import formula_solved
from eachsome.desks import Desk
from eachsome.engines import solved
from eachsome.errors import BadText, GameError, Unfit
from eachsome.formulatexts import read_formula
from eachsome.numerals import read_number
from eachsome.papers import paper_error
from eachsome.papertexts import paper_text, read_paper
from eachsome.sentences import clause_of
from eachsome.sentencetexts import read_sentence, sentence_text

WHAT = "what"
GREATEST_NUMBER = 999999999


def number_in(word):
    """Return the integer that the word writes, None if there is none."""
    try:
        number = read_number(word.removeprefix("-"), GREATEST_NUMBER)
    except BadText:
        return None
    if not word.startswith("-"):
        return number
    # What has "-" ahead is below 0.
    return None if number == 0 else -number


def numbers_in(text):
    """Return the tuple of the integers in text, one blank between two, None if something else stands there."""
    numbers = [number_in(word) for word in text.split(" ")]
    return None if None in numbers else tuple(numbers)


def version_line(version):
    """Return what is said to an edit."""
    return f"version {version}"


def undo_line(desk):
    """Take back an edit."""
    return version_line(desk.undo())


def redo_line(desk):
    """Do an edit again."""
    return version_line(desk.redo())


def show_line(desk):
    """Return the text of the sentence."""
    return sentence_text(desk.sentence)


def who_line(desk):
    """Return who wins."""
    return desk.who()


def paper_line(desk):
    """Return the text of the paper."""
    return paper_text(desk.paper())


def found_line(desk):
    """Return how many sentences were searched."""
    return str(desk.found)


def put_line(desk, numbers):
    """Put the clause of these literals."""
    if not all([1 <= abs(number) <= MAX_LETTERS for number in numbers]):
        raise Unfit()
    return version_line(desk.put(clause_of(numbers)))


def drop_line(desk, numbers):
    """Take the clause at a place out."""
    return version_line(desk.drop(numbers[0])) if len(numbers) == 1 else WHAT


def reply_line(desk, numbers):
    """Return the winner's answer to this play."""
    return str(desk.reply(numbers))


def letter_line(desk, text):
    """Put a letter of this owner."""
    return version_line(desk.letter(text))


def judge_line(desk, text):
    """Return "right" for the text of a paper of the sentence, otherwise "wrong"."""
    try:
        paper = read_paper(text)
    except BadText:
        return "wrong"
    return "right" if paper_error(desk.sentence, paper) is None else "wrong"


def solve_line(_, text):
    """Return who wins the sentence of which text is the text."""
    return solved(read_sentence(text))[0]


def holds_line(_, text):
    """Return whether the formula of which text is the text holds."""
    return "yes" if formula_solved(read_formula(text))[0] else "no"


ALONE = {
    "undo": undo_line, "redo": redo_line, "show": show_line, "who": who_line, "paper": paper_line, "found": found_line,
}
WITH_NUMBERS = {"put": put_line, "drop": drop_line, "reply": reply_line}
WITH_TEXT = {"letter": letter_line, "judge": judge_line, "solve": solve_line, "holds": holds_line}


def line_said(desk, word, blank, told):
    """Return what is said to a line: its word, a blank if there is one, and what is told behind it."""
    if word in WITH_NUMBERS:
        action = WITH_NUMBERS[word]
        numbers = numbers_in(told) if blank else ()
        return WHAT if numbers is None else action(desk, numbers)
    if word in WITH_TEXT and blank:
        action = WITH_TEXT[word]
        return action(desk, told)
    if word in ALONE and not blank:
        action = ALONE[word]
        return action(desk)
    return WHAT


def error_line(error):
    """Return what is said where this error is raised."""
    return "error " + error.__class__.__name__


class Shell:
    """A desk to which lines are told."""

    def __init__(self):
        self._desk = Desk("")

    def say(self, line):
        """Return what is said to the line, any value."""
        if not isinstance(line, str):
            return WHAT
        word, blank, told = line.partition(" ")
        try:
            if word == "new":
                self._desk = Desk(told)
                return version_line(0)
            return line_said(self._desk, word, blank, told)
        except GameError as error:
            return error_line(error)
