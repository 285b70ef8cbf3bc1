"""Texts of formulas."""

from eachsome.bounds import MAX_NEST
from eachsome.errors import BadText
from eachsome.formulas import QUANTIFIERS, formula_error, parts_of

CONSTANTS = {"yes": ("and", ()), "no": ("or", ())}
SEPARATE = ("!", "&", "|", "=", "(", ")")

# How tightly a text holds together: a "same" the least, what needs brackets nowhere the most.
TIGHT = {"same": 0, "or": 1, "and": 2}
TIGHTEST = 3
# How tightly each part has to hold together to stand there without brackets.
TIGHT_PARTS = {"same": 1, "or": 2, "and": 3}
BETWEEN = {"same": " = ", "or": " | ", "and": " & "}


def tightness(formula):
    """Return how tightly the text of the formula holds together."""
    return TIGHTEST if formula[1] == () else TIGHT.get(formula[0], TIGHTEST)


def part_text(part, least):
    """Return the text of the part, in brackets if it holds together less tightly than this."""
    text = formula_text(part)
    return text if tightness(part) >= least else f"({text})"


def formula_text(formula):
    """Return the text of the formula."""
    word = formula[0]
    if word == "letter":
        return formula[1]
    if word == "not":
        return "!" + part_text(formula[1], TIGHTEST)
    if word in QUANTIFIERS:
        return f"{word} {formula[1]} {part_text(formula[2], TIGHTEST)}"
    if formula[1] == ():
        return "yes" if word == "and" else "no"
    return BETWEEN[word].join([part_text(part, TIGHT_PARTS[word]) for part in parts_of(formula)])


def tokens_of(text):
    """Return the list of the tokens of the text."""
    for sign in SEPARATE:
        text = text.replace(sign, f" {sign} ")
    return [token for token in text.replace("\n", " ").split(" ") if token]


def joined(word, parts):
    """Return the formula that joins the parts by the word, "and" or "or"; one alone stands for itself."""
    return parts[0] if len(parts) == 1 else (word, tuple(parts))


class Reader:
    """Tokens, read one behind another.

    Whatever stands in the place of a letter or a name is taken for one: the judge of formulas finds what is none.
    """

    def __init__(self, tokens):
        self.tokens = tokens
        self.place = 0
        self.brackets = 0

    def here(self):
        """Return the token that comes next, "" behind all."""
        return self.tokens[self.place] if self.place < len(self.tokens) else ""

    def take(self):
        """Return the token that comes next, and go behind it."""
        token = self.here()
        self.place += 1
        return token

    def read_whole(self):
        """Return what stands here up to a closing bracket or the end: a formula in the words of the grammar."""
        one = self.read_sums()
        if self.here() != "=":
            return one
        self.take()
        return ("same", one, self.read_sums())

    def read_sums(self):
        """Return what stands here up to what is neither "&" nor "|"."""
        products = [[self.read_plain()]]
        while self.here() in ("&", "|"):
            if self.take() == "|":
                products.append([])
            products[-1].append(self.read_plain())
        return joined("or", [joined("and", plains) for plains in products])

    def read_plain(self):
        """Return the formula of a plain."""
        # A loop, as thousands of them may stand here, one behind another.
        ahead = []
        while self.here() == "!" or self.here() in QUANTIFIERS:
            word = self.take()
            ahead.append(("not",) if word == "!" else (word, self.take()))
        token = self.take()
        formula = self.read_bracketed() if token == "(" else CONSTANTS.get(token, ("letter", token))
        for node in reversed(ahead):
            formula = (*node, formula)
        return formula

    def read_bracketed(self):
        """Return the formula behind an opening bracket, and go behind the closing one."""
        self.brackets += 1
        if self.brackets > MAX_NEST:
            raise BadText()
        formula = self.read_whole()
        if self.take() != ")":
            raise BadText()
        self.brackets -= 1
        return formula


def read_formula(value):
    """Return the formula for which value stands; raise BadText if it stands for none."""
    if not isinstance(value, str):
        raise BadText()
    reader = Reader(tokens_of(value))
    formula = reader.read_whole()
    if reader.here() != "" or formula_error(formula) is not None:
        raise BadText()
    return formula
