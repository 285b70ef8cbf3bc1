import random
import unittest
from itertools import product

from eachsome.compiling import (
    Circuit, Settings, compiled, formula_followed, formula_paper, formula_reply, formula_solved, helper_play,
)
from eachsome.engines import engine_of, solved
from eachsome.errors import TooMany, Unfit
from eachsome.formulas import formula_error
from eachsome.meaning import winner
from eachsome.papers import paper_error
from eachsome.plays import result
from eachsome.prenexes import prenex
from eachsome.search import paper_from
from eachsome.sentences import sentence_error
from eachsome.truths import holds
from tests.finding import found_paper, rows_without_end
from tests.helpers import check_call, outcome, raised, returned
from tests.making_formulas import (
    A, NAMES, NO, PLAIN_WORDS, X, Y, YES, all_formulas, closed_formula, nested, random_formula, wide,
)
from tests.plain import plain_judged
from tests.plain_compiling import matrix_holds, plain_compiled, plain_helper_play
from tests.plain_formulas import plain_free

TURN = ("each", "x", ("some", "y", ("or", (("and", (X, Y)), ("not", X)))))
LOST = ("some", "y", ("each", "x", ("same", X, Y)))
LETTERS = [("letter", f"n{number}") for number in range(60)]


def ahead(words, matrix, letters=LETTERS):
    """The matrix behind an "each" or "some", as the words tell, of each of the letters n0, n1 and so on."""
    for word, letter in reversed(list(zip(words, letters))):
        matrix = (word, letter[1], matrix)
    return matrix


def both_signs(many):
    """So many unlike literals of the letters n0, n1 and so on."""
    return tuple([LETTERS[at // 2] if at % 2 == 0 else ("not", LETTERS[at // 2]) for at in range(many)])


def limit_of(formula):
    """What compiled raises TooMany of where prenex and lowered raise nothing, None if of nothing."""
    sentence, _ = plain_compiled(formula)
    if len(sentence[0]) > 60:
        return 60
    return 200 if len(sentence[1]) > 200 else None


def closed_small_formulas(nodes):
    return [formula for formula in all_formulas(nodes) if not plain_free(formula)]


class CompiledTest(unittest.TestCase):
    def check(self, formula):
        limit = limit_of(formula)
        if limit is not None:
            check_call(self, compiled, raised(TooMany(limit)), formula=formula)
            return limit
        expected = plain_compiled(formula)
        check_call(self, compiled, returned(expected), formula=formula)
        self.assertIsNone(sentence_error(expected[0]))
        return None

    def test_all_small_formulas(self):
        seen = {}
        for nodes in range(1, 6):
            for formula in closed_small_formulas(nodes):
                found = compiled(formula)
                self.assertEqual(found, plain_compiled(formula))
                if len(found[0][0]) <= 12:
                    who = winner(found[0], ())
                    self.assertEqual(who, "some" if holds(formula, {}) else "each")
                    seen[who] = seen.get(who, 0) + 1
        self.assertGreater(min(seen.values()), 1000)

    def test_random_formulas(self):
        dice = random.Random(839)
        seen = {"some": 0, "each": 0}
        for _ in range(500):
            formula = closed_formula(dice, dice.randint(2, 16), NAMES[:dice.randint(1, 4)])
            if outcome(lambda: prenex(formula))[0] == "returned" and self.check(formula) is None:
                sentence, _ = compiled(formula)
                if len(sentence[0]) <= 12:
                    who = winner(sentence, ())
                    self.assertEqual(who, "some" if holds(formula, {}) else "each")
                    seen[who] += 1
        self.assertGreater(min(seen.values()), 60)

    def test_nodes_that_stand_twice(self):
        twice = ("and", (X, Y))
        for matrix in (("or", (twice, twice)), ("and", (twice, twice, twice)), ("same", twice, twice), ("or", (X, X, Y)),
                       ("and", (X, Y, X)), ("and", (YES, YES)), ("or", (NO, NO, YES)), ("not", ("or", (twice, twice)))):
            for words in product(("each", "some"), repeat=2):
                self.assertIsNone(self.check(ahead(words, matrix, (X, Y))))

    def test_clauses_that_are_left_out(self):
        for formula, expected in (
            (("each", "x", ("or", (X, ("not", X)))), (("es", ((2,),)), 1)),
            (("each", "x", ("or", (X, X))), (("es", ((2,), (1, -2))), 1)),
            (("each", "x", ("and", (X, X))), (("es", ((2,), (1, -2))), 1)),
            (("each", "x", ("and", (X, ("not", X), X))), (("es", ((2,), (1, -2), (-1, -2))), 1)),
            (("some", "x", ("or", (YES, X))), (("sss", ((2,), (1, -2, 3))), 1)),
            (("some", "x", ("or", (NO, X))), (("sss", ((2,), (1, -2, 3), (-3,))), 1)),
            (("some", "x", ("and", (NO, ("or", (X, ("not", X)))))), (("ssss", ((2,), (-2, 3), (-2, 4), (-3,))), 1)),
        ):
            self.assertEqual(plain_compiled(formula), expected)
            check_call(self, compiled, returned(expected), formula=formula)

    def test_what_prenex_and_lowered_raise(self):
        for formula, error in (
            (X, Unfit()), (("and", (TURN, A)), Unfit()), (("and", (nested(X, 31, lambda part: ("each", "x", part)),) * 2), TooMany(60)),
            (("same", ("each", "x", wide(196, X)), YES), TooMany(400)), (("each", "x", ("same", wide(66, X), wide(66, X))), TooMany(400)),
            (("same", ("each", "x", nested(X, 37, lambda part: ("not", part))), YES), TooMany(40)),
            (("each", "x", nested(X, 38, lambda part: ("same", part, X))), TooMany(400)),
            (("same", YES, nested(YES, 38, lambda part: ("and", (part, YES)))), TooMany(40)),
        ):
            for call in (compiled, formula_paper, formula_solved):
                check_call(self, call, raised(error), formula=formula)

    def with_letters(self, count, helpers):
        """A formula of so many quantifiers, half of them beside the others, and so many helpers, three at least."""
        half = count // 2
        high = ahead(("some",) * (count - half), ("or", (LETTERS[0],) + (YES,) * (helpers - 2)))
        return ("and", (ahead(("each",) * half, LETTERS[0]), high))

    def test_too_many_letters(self):
        for count, helpers, limit in ((57, 3, None), (58, 3, 60), (57, 4, 60), (30, 30, None), (30, 31, 60), (31, 30, 60), (12, 48, None),
                                      (12, 49, 60), (40, 20, None), (41, 20, 60), (60, 3, 60), (20, 300, 60)):
            formula = self.with_letters(count, helpers)
            self.assertIsNone(formula_error(formula))
            self.assertEqual(len(plain_compiled(formula)[0][0]), count + helpers)
            self.assertEqual(self.check(formula), limit)
        self.assertIsNone(self.check(ahead(("each",) * 39, LETTERS[0])))

    def test_too_many_clauses(self):
        # Thirty letters make sixty literals, so four such nodes make up to 240 clauses.
        for sizes, limit in (((60, 60, 60, 15), None), ((60, 60, 60, 16), 200), ((60, 60, 60, 13, 1), None), ((60, 60, 60, 14, 1), 200),
                             ((50, 50, 50, 45), None), ((50, 50, 50, 46), 200), ((60, 60, 60, 60), 200)):
            parts = [("and", both_signs(size)) if size > 1 else NO for size in sizes]
            formula = ahead(("some",) * 30, ("and", tuple(parts)))
            self.assertIsNone(formula_error(formula))
            self.assertEqual(self.check(formula), limit)
            self.assertEqual(len(plain_compiled(formula)[0][1]) > 200, limit is not None)
        # A part that stands there twice, and a node that always holds, make no clause more.
        often = ("and", both_signs(15) + both_signs(9))
        always = ("or", both_signs(2))
        formula = ahead(("each",) * 30, ("and", (*[("and", both_signs(60))] * 3, often)))
        self.assertEqual(len(compiled(formula)[0][1]), 200)
        self.assertIsNone(self.check(formula))
        formula = ahead(("each",) * 30, ("and", (*[("and", both_signs(60))] * 3, ("and", both_signs(13)), always)))
        self.assertEqual(len(compiled(formula)[0][1]), 199)
        self.assertIsNone(self.check(formula))

    def test_letters_come_ahead_of_clauses(self):
        parts = (("and", tuple(LETTERS[:35])),) * 6
        for more, limit in ((18, 200), (19, 60)):
            formula = ahead(("some",) * 35, ("and", parts + (YES,) * more))
            self.assertIsNone(formula_error(formula))
            self.assertGreater(len(plain_compiled(formula)[0][1]), 200)
            self.assertEqual(self.check(formula), limit)

    def test_calls(self):
        for formula, expected in (
            (TURN, (("esss", ((3,), (-1, -3, 4), (1, -4), (2, -4))), 2)),
            (("not", ("and", (("each", "x", X), ("some", "x", ("not", X))))), (("ses", ((3,), (-1, 2, -3))), 2)),
            (("each", "x", ("some", "y", ("same", X, Y))), (("essss", ((3,), (-3, 4), (-3, 5), (-1, 2, -4), (1, -2, -5))), 2)),
            (YES, (("s", ((1,),)), 0)), (NO, (("s", ((1,), (-1,))), 0)), (("each", "x", X), (("e", ((1,),)), 1)),
            (("some", "x", ("not", X)), (("s", ((-1,),)), 1)), (("each", "x", YES), (("es", ((2,),)), 1)),
            (("not", NO), (("s", ((1,),)), 0)),
        ):
            check_call(self, compiled, returned(expected), formula=formula)


class HelperPlayTest(unittest.TestCase):
    def check(self, formula):
        sentence, count = compiled(formula)
        for settings in product((True, False), repeat=count):
            play = helper_play(formula, settings)
            self.assertEqual(play, plain_helper_play(formula, settings))
            self.assertEqual(result(sentence, play), "some" if matrix_holds(formula, settings) else "each")

    def test_all_settings_of_small_formulas(self):
        for nodes in range(1, 5):
            for formula in closed_small_formulas(nodes):
                self.check(formula)
        dice = random.Random(853)
        for _ in range(150):
            formula = closed_formula(dice, dice.randint(4, 14), NAMES[:dice.randint(1, 3)])
            if outcome(lambda: compiled(formula))[0] == "returned" and compiled(formula)[1] <= 6:
                self.check(formula)

    def test_what_is_raised(self):
        for formula, error in ((X, Unfit()), (("and", (nested(X, 31, lambda part: ("each", "x", part)),) * 2), TooMany(60)),
                               (ahead(("some",) * 30, ("and", (("and", both_signs(60)),) * 4)), TooMany(200))):
            check_call(self, helper_play, raised(error), formula=formula, settings=(True,) * 30)

    def test_many_quantifiers(self):
        dice = random.Random(857)
        formula = ahead(("each", "some") * 14, ("or", tuple([("and", (LETTERS[at], ("not", LETTERS[27 - at]))) for at in range(20)])))
        for _ in range(20):
            settings = tuple([dice.random() < 0.5 for _ in range(28)])
            check_call(self, helper_play, returned(plain_helper_play(formula, settings)), formula=formula, settings=settings)

    def test_calls(self):
        for formula, settings, expected in (
            (TURN, (True, True), (1, 2, 3, 4)), (TURN, (True, False), (1, -2, -3, -4)), (TURN, (False, False), (-1, -2, 3, -4)),
            (TURN, (False, True), (-1, 2, 3, -4)), (YES, (), (1,)), (NO, (), (-1,)), (("each", "x", X), (False,), (-1,)),
        ):
            check_call(self, helper_play, returned(expected), formula=formula, settings=settings)


class FormulaPaperTest(unittest.TestCase):
    def check(self, formula, judged=True):
        """Whether the formula holds, when all is as it should be."""
        truth = holds(formula, {})
        paper = formula_paper(formula)
        sentence, _ = compiled(formula)
        self.assertIsNone(paper_error(sentence, paper), formula)
        if judged:
            self.assertIsNone(plain_judged(sentence, paper)[0])
        self.assertEqual(paper[0], "yes" if truth else "no")
        self.assertEqual(formula_solved(formula), (truth, paper))
        self.assertIs(formula_solved(formula)[0], truth)
        return truth

    def test_all_small_formulas(self):
        seen = {True: 0, False: 0}
        for nodes in range(1, 6):
            for formula in closed_small_formulas(nodes):
                seen[self.check(formula, nodes < 5)] += 1
        self.assertGreater(min(seen.values()), 1000)

    def test_random_formulas(self):
        dice = random.Random(859)
        seen = {True: 0, False: 0}
        for _ in range(400):
            formula = closed_formula(dice, dice.randint(4, 50), NAMES[:dice.randint(1, 4)], PLAIN_WORDS + ("each", "some"))
            found = outcome(lambda: compiled(formula))
            if found[0] == "returned" and compiled(formula)[1] <= 12:
                seen[self.check(formula)] += 1
        self.assertGreater(min(seen.values()), 40)

    def test_twelve_quantifiers(self):
        dice = random.Random(863)
        names = tuple([letter[1] for letter in LETTERS[:12]])
        seen = {True: 0, False: 0}
        for number in range(60):
            words = [dice.choice(("each", "some")) for _ in range(12)]
            if number % 3:
                literals = both_signs(24)
                inner, outer = (("or", "and") if number % 3 == 1 else ("and", "or"))
                matrix = (outer, tuple([(inner, tuple(dice.sample(literals, dice.randint(2, 4)))) for _ in range(dice.randint(6, 40))]))
            else:
                matrix = random_formula(dice, dice.randint(30, 90), names, ("not", "and", "or", "same"))
            formula = ahead(words, matrix)
            if outcome(lambda: compiled(formula))[0] == "returned":
                seen[self.check(formula, False)] += 1
        self.assertGreater(min(seen.values()), 10)

    def test_hard_formulas(self):
        pairs = ("and", tuple([("same", LETTERS[at], LETTERS[at + 1]) for at in range(0, 12, 2)]))
        turned = ("or", tuple([("not", ("same", LETTERS[at], LETTERS[at + 1])) for at in range(0, 12, 2)]))
        halves = ("and", tuple([("same", LETTERS[at], LETTERS[at + 6]) for at in range(6)]))
        odd = ("same", ("same", ("same", LETTERS[0], LETTERS[1]), LETTERS[2]), LETTERS[3])
        for words, matrix, expected in (
            (("each", "some") * 6, pairs, True), (("some", "each") * 6, pairs, False), (("each",) * 6 + ("some",) * 6, halves, True),
            (("some",) * 6 + ("each",) * 6, halves, False), (("some", "each") * 6, turned, False), (("each", "some") * 6, turned, True),
            (("each",) * 12, pairs, False), (("some",) * 12, halves, True), (("each", "each", "each", "some"), odd, True),
            (("some", "each", "each", "each"), odd, False), (("some", "some", "each", "some"), odd, True),
            (("each",) * 12, ("or", tuple(both_signs(24))), True), (("some",) * 12, ("and", tuple(both_signs(24))), False),
        ):
            self.assertEqual(self.check(ahead(words, matrix), len(words) < 12), expected)

    def test_no_quantifiers(self):
        dice = random.Random(877)
        seen = {}
        for formula in (YES, NO, ("not", YES), ("not", NO), ("same", NO, NO), ("and", (YES, NO)), ("or", (NO, YES, NO))):
            seen[self.check(formula)] = True
            check_call(self, formula_paper, returned(formula_paper(formula)), formula=formula)
        for _ in range(60):
            one, other = [(word, tuple(dice.choices((YES, NO), k=dice.randint(2, 9)))) for word in ("and", "or")]
            for formula in (one, other, ("same", one, other), ("not", ("same", other, other)), ("or", (one, ("not", other)))):
                seen[self.check(formula)] = True
        self.assertEqual(set(seen), {True, False})

    def test_thirteen_quantifiers(self):
        for matrix in (YES, NO, LETTERS[11], ("or", (LETTERS[0], LETTERS[11]))):
            for words in (("each",) * 24, ("some",) * 24, ("each", "some") * 12):
                self.check(ahead(words[:12], matrix))
                for many in (13, 14, 24):
                    for call in (formula_paper, formula_solved):
                        check_call(self, call, raised(TooMany(12)), formula=ahead(words[:many], matrix))
        # What compiled raises comes first.
        parts = (("and", tuple(LETTERS[:35])),) * 6
        for formula, error in ((ahead(("some",) * 35, ("and", parts + (YES,) * 18)), TooMany(200)),
                               (ahead(("some",) * 35, ("and", parts + (YES,) * 19)), TooMany(60)), (ahead(("some",) * 13, LETTERS[20]), Unfit())):
            for call in (formula_paper, formula_solved):
                check_call(self, call, raised(error), formula=formula)

    def test_calls(self):
        for formula in (TURN, LOST, YES, NO, ("each", "x", X), ("some", "x", ("not", X)), ("each", "x", ("or", (X, ("not", X))))):
            check_call(self, formula_paper, returned(formula_paper(formula)), formula=formula)
            check_call(self, formula_solved, returned((holds(formula, {}), formula_paper(formula))), formula=formula)
            self.check(formula)


class FollowedTest(unittest.TestCase):
    def check(self, formula, found):
        """For all settings of the other party the matrix holds exactly if the truth is True."""
        sentence, count = compiled(formula)
        holder = "s" if found[0] else "e"
        others_many = sentence[0][:count].replace(holder, "")
        for others in product((True, False), repeat=len(others_many)):
            settings = formula_followed(formula, found, others)
            self.assertEqual((len(settings), {type(flag) for flag in settings} <= {bool}), (count, True))
            self.assertIs(matrix_holds(formula, settings), found[0], (formula, settings))
            left = list(others)
            for place in range(count):
                if sentence[0][place] == holder:
                    told = formula_reply(formula, found, settings[:place])
                    self.assertIs(told, settings[place])
                else:
                    self.assertEqual(settings[place], left.pop(0))
                    with self.assertRaises(Unfit):
                        formula_reply(formula, found, settings[:place])

    def test_small_formulas(self):
        for nodes in range(2, 5):
            for formula in closed_small_formulas(nodes):
                self.check(formula, formula_solved(formula))

    def test_random_formulas(self):
        dice = random.Random(881)
        seen = {True: 0, False: 0}
        for _ in range(150):
            formula = closed_formula(dice, dice.randint(4, 24), NAMES[:dice.randint(1, 4)], PLAIN_WORDS + ("each", "some"))
            if outcome(lambda: compiled(formula))[0] == "returned" and compiled(formula)[1] <= 7:
                found = formula_solved(formula)
                seen[found[0]] += 1
                self.check(formula, found)
                sentence, _ = compiled(formula)
                self.check(formula, (found[0], rows_without_end(sentence, found[1])))
        self.assertGreater(min(seen.values()), 20)

    def test_other_papers(self):
        dice = random.Random(883)
        seen = {True: 0, False: 0}
        for _ in range(200):
            formula = closed_formula(dice, dice.randint(3, 9), NAMES[:dice.randint(1, 3)])
            if outcome(lambda: compiled(formula))[0] == "returned" and len(compiled(formula)[0][0]) <= 9:
                paper = found_paper(compiled(formula)[0])
                seen[paper[0] == "yes"] += 1
                self.check(formula, (paper[0] == "yes", paper))
        self.assertGreater(min(seen.values()), 25)

    def test_more_than_twelve_quantifiers(self):
        dice = random.Random(887)
        pairs = ("and", tuple([("same", LETTERS[at], LETTERS[at + 1]) for at in range(0, 14, 2)]))
        seen = {}
        for words, matrix in ((("each", "some") * 7, pairs), (("some", "each") * 7, pairs), (("each",) * 14, pairs),
                              (("some", "each") * 7, ("not", pairs)), (("each", "some") * 7, ("not", pairs))):
            formula = ahead(words, matrix)
            sentence, _ = compiled(formula)
            for call in (formula_paper, formula_solved):
                check_call(self, call, raised(TooMany(12)), formula=formula)
            papers = [paper_from(Settings(Circuit(formula)))]
            if engine_of(sentence) == "horn" and papers[0][0] == "no":
                papers.append(solved(sentence)[1])
            for paper in papers:
                self.assertIsNone(paper_error(sentence, paper))
                seen[(paper[0], len(papers))] = True
                self.check_some(dice, formula, (paper[0] == "yes", paper))
        self.assertEqual(set(seen), {("yes", 1), ("no", 2), ("no", 1)})

    def check_some(self, dice, formula, found):
        """As check, for some settings of the other party, as there are many."""
        sentence, count = compiled(formula)
        many = len(sentence[0][:count].replace("s" if found[0] else "e", ""))
        for _ in range(40):
            others = tuple([dice.random() < 0.5 for _ in range(many)])
            settings = formula_followed(formula, found, others)
            self.assertIs(matrix_holds(formula, settings), found[0])
            for place in dice.sample(range(count), 3):
                expected = returned(settings[place]) if (sentence[0][place] == "s") == found[0] else raised(Unfit())
                check_call(self, formula_reply, expected, formula=formula, found=found, settings=settings[:place])

    def test_thirteen_quantifiers_with_a_paper_of_fewer(self):
        """Quantifiers that say nothing stand ahead: the paper is that of the rest, with its letters told anew."""
        dice = random.Random(907)
        for inner in (TURN, LOST, ("each", "a", ("some", "b", ("same", A, ("letter", "b"))))):
            for words in (("each",) * 13, ("some",) * 20, ("each", "some") * 9):
                formula = ahead(words, inner)
                sentence, count = compiled(formula)
                self.assertGreater(count, 12)
                shift = len(words)
                truth, (side, steps) = formula_solved(inner)
                moved = []
                for step in steps:
                    row = tuple([k + shift if k > 0 else k - shift for k in step[1]]) if step[0] == "lot" else None
                    moved.append(step if row is None else ("lot", row))
                found = (truth, (side, tuple(moved)))
                self.assertIsNone(paper_error(sentence, found[1]))
                self.check_some(dice, formula, found)

    def test_two_formulas_by_turns(self):
        other = ("each", "x", ("some", "y", ("same", X, ("not", Y))))
        first, second = formula_solved(TURN), formula_solved(other)
        for flag in (True, False):
            self.assertEqual(formula_reply(other, second, (flag,)), not flag)
            self.assertEqual(formula_followed(TURN, first, (True,)), (True, True))
            self.assertEqual(formula_followed(other, second, (flag,)), (flag, not flag))
            self.assertIs(formula_reply(TURN, first, (True,)), True)

    def test_calls(self):
        found = formula_solved(TURN)
        check_call(self, formula_reply, returned(True), formula=TURN, found=found, settings=(True,))
        check_call(self, formula_reply, raised(Unfit()), formula=TURN, found=found, settings=())
        check_call(self, formula_followed, returned((True, True)), formula=TURN, found=found, others=(True,))
        lost = formula_solved(LOST)
        for flag in (True, False):
            check_call(self, formula_followed, returned((flag, not flag)), formula=LOST, found=lost, others=(flag,))
            check_call(self, formula_reply, returned(not flag), formula=LOST, found=lost, settings=(flag,))
        check_call(self, formula_reply, raised(Unfit()), formula=LOST, found=lost, settings=())
        for formula in (YES, NO):
            check_call(self, formula_followed, returned(()), formula=formula, found=formula_solved(formula), others=())


if __name__ == "__main__":
    unittest.main()
