import random
import unittest

from eachsome.errors import BadText
from eachsome.formulas import formula_error
from eachsome.formulatexts import formula_text, read_formula
from tests.helpers import any_values, check_call, raised, returned
from tests.making import edits_of
from tests.making_formulas import A, B, NAMES, NO, X, Y, YES, all_formulas, great_formulas, nested, random_formula, wide
from tests.plain_formulas import plain_read, plain_text, tokens_in

TURN = ("each", "x", ("some", "y", ("or", (("and", (X, Y)), ("not", X)))))
TOKENS = ("!", "&", "|", "=", "(", ")", "each", "some", "yes", "no", "a", "b", "x", "abcdefghi", "1", "A", "-", ";", "")


def matching_brackets(text):
    """Pairs of places of brackets that belong together."""
    waiting, found = [], []
    for place, sign in enumerate(text):
        if sign == "(":
            waiting.append(place)
        elif sign == ")":
            found.append((waiting.pop(), place))
    return found


class FormulaTextTest(unittest.TestCase):
    def check(self, formula):
        text = formula_text(formula)
        self.assertEqual(text, plain_text(formula))
        self.assertEqual(read_formula(text), formula)
        return text

    def check_brackets(self, formula):
        """No pair of brackets can go."""
        text = formula_text(formula)
        for low, high in matching_brackets(text):
            without = text[:low] + text[low + 1:high] + text[high + 1:]
            self.assertNotEqual(plain_read(without), formula, (text, without))

    def test_all_small_formulas(self):
        texts = {}
        for nodes in range(1, 5):
            for formula in all_formulas(nodes):
                text = self.check(formula)
                self.assertNotIn(text, texts)
                texts[text] = formula
                self.check_brackets(formula)
        dice = random.Random(677)
        for formula in dice.sample(all_formulas(5), 3000):
            self.check(formula)
            self.check_brackets(formula)

    def test_random_and_great_formulas(self):
        dice = random.Random(683)
        for _ in range(200):
            formula = random_formula(dice, dice.randint(4, 30))
            self.check(formula)
            self.check_brackets(formula)
        for formula in great_formulas(691, 60):
            self.check(formula)

    def test_each_part_in_each_place(self):
        parts = (A, YES, NO, ("not", A), ("each", "x", X), ("some", "y", B), ("and", (A, B)), ("or", (A, B)), ("same", A, B))
        for part in parts:
            for formula in (("not", part), ("each", "a", part), ("some", "b", part), ("and", (part, X)), ("and", (X, part)),
                            ("or", (part, X)), ("or", (X, part)), ("same", part, X), ("same", X, part)):
                self.check(formula)
                self.check_brackets(formula)

    def test_calls(self):
        for formula, text in (
            (TURN, "each x some y (x & y | !x)"), (A, "a"), (YES, "yes"), (NO, "no"), (("not", ("not", NO)), "!!no"),
            (("and", (("and", (A, B)), ("or", (A, YES)))), "(a & b) & (a | yes)"),
            (("or", (("and", (A, B)), ("same", A, ("not", ("same", A, B))))), "a & b | (a = !(a = b))"),
            (("same", ("or", (A, B)), ("same", A, B)), "a | b = (a = b)"), (("same", ("same", A, B), X), "(a = b) = x"),
            (("and", (("each", "x", X), ("not", ("or", (A, NO))), A)), "each x x & !(a | no) & a"),
            (("some", "x", ("and", (A, B))), "some x (a & b)"), (("or", (("or", (A, B)), ("and", (A, B)))), "(a | b) | a & b"),
        ):
            check_call(self, formula_text, returned(text), formula=formula)
            check_call(self, read_formula, returned(formula), value=text)


class ReadFormulaTest(unittest.TestCase):
    def check(self, text):
        expected = plain_read(text)
        if expected is None:
            check_call(self, read_formula, raised(BadText()), value=text)
        else:
            self.assertIsNone(formula_error(expected))
            check_call(self, read_formula, returned(expected), value=text)
        return expected

    def test_more_brackets_blanks_and_line_feeds(self):
        dice = random.Random(701)
        for _ in range(200):
            formula = random_formula(dice, dice.randint(1, 25))
            spaced = "".join([dice.choice(("", " ", "\n", "  \n ")) + token + dice.choice(" \n") for token in
                              tokens_in(formula_text(formula))])
            self.assertEqual(read_formula(spaced), formula)
            self.assertEqual(read_formula(f"\n{formula_text(formula)} \n"), formula)
            self.assertEqual(read_formula(f"(({spaced}))"), formula)
            tight = formula_text(formula)
            for sign in "!&|=()":
                tight = tight.replace(f" {sign}", sign).replace(f"{sign} ", sign)
            self.assertEqual(read_formula(tight), formula)
        for text in (" ((a))", "(a)", "( a )", "\n(\na\n)\n", "((((((a))))))"):
            self.assertEqual(self.check(text), A)
        self.assertEqual(self.check("!(!(a))"), ("not", ("not", A)))
        self.assertEqual(self.check("(a)&((b))|(no)"), ("or", (("and", (A, B)), NO)))
        self.assertEqual(self.check("each x(x)&each y(y)"), ("and", (("each", "x", X), ("each", "y", Y))))

    def test_forty_brackets_open(self):
        self.assertEqual(self.check("(" * 40 + "a" + ")" * 40), A)
        self.assertIsNone(self.check("(" * 41 + "a" + ")" * 41))
        self.assertEqual(self.check("a&" + "(" * 40 + "a" + ")" * 40 + "&(a)"), ("and", (A, A, A)))
        self.assertIsNone(self.check("a|" + "(" * 41 + "a" + ")" * 41))
        self.assertIsNone(self.check("((a))&(a)|" + "(" * 41 + "a" + ")" * 41))
        self.assertEqual(self.check("((a))|" + "(" * 40 + "a" + ")" * 40), ("or", (A, A)))
        self.assertEqual(self.check("((a))|" * 60 + "((a))"), ("or", (A,) * 61))
        for many in (39, 40, 41):
            text = "!(" * many + "a" + ")" * many
            self.assertEqual(self.check(text) is None, many > 39)
        for text in ("((((", ")" * 40, "(a" * 30 + ")" * 30):
            self.assertIsNone(self.check(text))
        for text in ("(" * 20000, "!" * 19999 + "a", "!" * 20000, "each x " * 2000 + "x", "a=" * 9999 + "a", "a&" * 9999 + "a",
                     "a|a&" * 4999 + "a", "!(" * 9000 + "a", "each " * 4000, "a" * 20000, "=" * 20000, ")" * 20000, " " * 20000):
            check_call(self, read_formula, raised(BadText()), value=text)

    def test_deep_and_many(self):
        for wrap in (lambda part: ("not", part), lambda part: ("each", "x", part), lambda part: ("and", (part, A)),
                     lambda part: ("same", part, A), lambda part: ("or", (A, part))):
            deepest = nested(A, 39, wrap)
            self.assertEqual(read_formula(formula_text(deepest)), deepest)
            self.assertIsNone(self.check(plain_text(wrap(deepest))))
        for word in ("and", "or"):
            self.assertEqual(read_formula(formula_text(wide(399, word=word))), wide(399, word=word))
            self.assertIsNone(self.check(plain_text(wide(400, word=word))))
        self.assertIsNone(self.check(plain_text(("same", wide(200), wide(198)))))
        self.assertEqual(self.check(plain_text(("same", wide(200), wide(197)))), ("same", wide(200), wide(197)))

    def test_changed_tokens(self):
        dice = random.Random(709)
        seen = {True: 0, False: 0}
        for _ in range(250):
            tokens = tokens_in(formula_text(random_formula(dice, dice.randint(2, 14))))
            for _ in range(12):
                at = dice.randrange(len(tokens))
                changed = list(tokens)
                way = dice.choice(("out", "in", "exchange", "turn"))
                if way == "out":
                    del changed[at]
                elif way == "in":
                    changed.insert(at, dice.choice(TOKENS))
                elif way == "exchange":
                    changed[at] = dice.choice(TOKENS)
                else:
                    changed[at - 1], changed[at] = changed[at], changed[at - 1]
                seen[self.check(" ".join(changed)) is None] += 1
                self.check("".join(changed))
        self.assertGreater(min(seen.values()), 300)

    def test_changed_signs(self):
        for text in ("each x some y (x & y | !x)", "(a & b) & (a | yes)", "a | b = (a = b)", "!(a = no)", "each x !!x"):
            for edited in edits_of(text, "!&|=() \nxe1A-;,"):
                self.check(edited)

    def test_words(self):
        for text, expected in (
            ("eachx", ("letter", "eachx")), ("eachxx", ("letter", "eachxx")), ("yes1", ("letter", "yes1")), ("noo", ("letter", "noo")),
            ("not", ("letter", "not")), ("a1", ("letter", "a1")), ("abcdefgh", ("letter", "abcdefgh")), ("each a a", ("each", "a", A)),
            ("each a yes", ("each", "a", YES)), ("some not!not", ("some", "not", ("not", ("letter", "not")))),
            ("each a some a a", ("each", "a", ("some", "a", A))), ("!each x x | x", ("or", (("not", ("each", "x", X)), X))),
            ("each x x = x", ("same", ("each", "x", X), X)), ("!a&b", ("and", (("not", A), B))), ("yes=no", ("same", YES, NO)),
            ("a & b | x & y | a", ("or", (("and", (A, B)), ("and", (X, Y)), A))), ("a | b = b | a", ("same", ("or", (A, B)), ("or", (B, A)))),
        ):
            self.assertEqual(self.check(text), expected)

    def test_texts_that_are_none(self):
        for text in ("", " ", "\n", "a b", "a = b = a", "a = (b = a) = b", "some each a", "each yes a", "each no no", "some some a a",
                     "each a", "each", "some", "each 1 a", "each (a) a", "x & abcdefghi", "abcdefghi", "1", "1a", "123456789", "A", "Each a a",
                     "a &", "& a", "a & & b", "a |", "| a", "a | | b", "a || b", "a && b", "=", "a =", "= a", "a == b", "!", "!!", "a !", "a ! b",
                     "()", "( )", "(a", "a)", "(a))", "((a)", ")a(", "(a)(b)", "(a) b", "a (b)", "a!b", "a;", "a, b", "a.b", "a-b", "a_b", "a\tb",
                     "a\rb", "a\x0b", "[a]", "{a}", "a # b", "~a", "a^b", "a+b", "yes no", "yes yes", "eacha a", "each aa", "each abcdefghi a",
                     "each a abcdefghi", "! & a", "(a & b", "a & (b |)", "each x", "each x &", "each x = x", "each & x", "some ! a", "\xe9", "a\xa0b"):
            check_call(self, read_formula, raised(BadText()), value=text)
            self.assertIsNone(plain_read(text), text)

    def test_any_values(self):
        for value in any_values() + [A, ("not", A), ("a",), ["a"], b"a", {"a": "b"}, TURN]:
            if value not in ("e", "s", "es", "ex"):
                expected = plain_read(value) if isinstance(value, str) else None
                check_call(self, read_formula, returned(expected) if expected else raised(BadText()), value=value)

    def test_all_names(self):
        for name in NAMES + ("z9", "abcdefgh", "e", "s", "each1", "same", "and", "or", "letter"):
            check_call(self, read_formula, returned(("letter", name)), value=name)
            check_call(self, formula_text, returned(f"each {name} {name}"), formula=("each", name, ("letter", name)))


if __name__ == "__main__":
    unittest.main()
