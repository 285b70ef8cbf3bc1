import random
import unittest

from eachsome.compiling import formula_solved
from eachsome.desks import Desk
from eachsome.engines import solved
from eachsome.formulatexts import formula_text, read_formula
from eachsome.papers import paper_error
from eachsome.papertexts import paper_text
from eachsome.sentencetexts import read_sentence, sentence_text
from eachsome.shells import Shell
from eachsome.truths import holds
from tests.finding import found_paper, rich_sentence
from tests.helpers import any_values, outcome
from tests.making import random_clause
from tests.making_formulas import NAMES, closed_formula, random_formula

OWNERS = ("", "e", "s", "es", "see", "eses", "e" * 12)
RIGHT_INTS = ("0", "1", "-1", "9", "10", "60", "61", "-60", "-61", "999999999", "-999999999")
WRONG_INTS = ("", "00", "01", "-0", "-01", "--1", "+1", "1.", "1.0", "0x1", "1e1", "1_0", "-", "a", "1a", " 1", "1 ", "1000000000",
              "-1000000000", "1" * 400, "True", "None", "1\n", "\n1", "1,2", "(1)", "1;", "\u0661", "\u00b2")
ALONE = ("undo", "redo", "show", "who", "paper", "found")


def told(shell, *lines):
    return [shell.say(line) for line in lines]


def filled(*lines):
    shell = Shell()
    told(shell, *lines)
    return shell


def name_of(call):
    """The error that a call raises, as the shell names it, or what comes of it."""
    found = outcome(call)
    return f"error {found[1].__name__}" if found[0] == "raised" else found[1]


class LinesTest(unittest.TestCase):
    def check(self, lines, line, expected):
        """Behind the lines this one tells what is expected, called by place and by name, and nothing changes by "what"."""
        for call in (lambda shell: shell.say(line), lambda shell: shell.say(line=line)):
            shell = filled(*lines)
            before = told(shell, "show", "found")
            self.assertEqual(call(shell), expected, (lines, line))
            if expected == "what" or expected.startswith("error") and not line.startswith("reply"):
                self.assertEqual(told(shell, "show", "found"), before)

    def test_new(self):
        for owners in OWNERS:
            self.check((), f"new {owners}", "version 0")
            self.check(("new es", "put 1"), f"new {owners}", "version 0")
            self.assertEqual(told(filled(f"new {owners}"), "show", "found", "undo"), [f"{owners}:", "0", "error NothingToUndo"])
        self.check((), "new", "version 0")
        self.assertEqual(told(filled("new e", "new"), "show"), [":"])
        self.assertEqual(told(filled("new e", "new "), "show"), [":"])
        for wrong in ("x", " ", " e", "e ", "e s", "E", "e" * 13, "es\n", "\n", "e:", "-", "0", "ES", "new"):
            self.check(("new e", "put 1"), f"new {wrong}", "error Unfit")
        for line in ("new\n", "newe", "New", "NEW e", " new", "\nnew", "new\te", "news e"):
            self.check(("new e", "put 1"), line, "what")

    def test_put(self):
        lines = ("new eses",)
        for line, shown in (("put 1", "1;"), ("put", ";"), ("put 2 1", " 1 2;"), ("put -4 3 -1", " -1 3 -4;"), ("put 1 1 2 1", " 1 2;"),
                            ("put -3 -3", " -3;"), ("put 1 2 3 4", " 1 2 3 4;")):
            self.check(lines, line, "version 1")
            self.assertEqual(told(filled(*lines, line), "show"), ["eses:" + (shown if shown.startswith((" ", ";")) else f" {shown}")])
        for line in ("put 5", "put 0", "put 1 -1", "put 61", "put -61", "put 1 2 0", "put 60", "put 999999999", "put -999999999", "put 1 2 -1",
                     "put 1 5", "put 61 61", "put -5"):
            self.check(lines, line, "error Unfit")
        for line in ("put ", "put  1", "put 1 ", "put 1  2", "put 1\n", "put\n1", "put1", "put 1,2", "put x", "put 1 x", "put 1 1000000000",
                     "put 0 01", "put 61 x", "Put 1", " put 1", "put\t1", "puts 1"):
            self.check(lines, line, "what")
        for word in WRONG_INTS:
            self.check(lines, f"put {word}", "what")
            self.check(lines, f"put 1 {word}", "what")
        for word in RIGHT_INTS:
            self.check(lines, f"put {word}", "version 1" if word in ("1", "-1") else "error Unfit")
        self.check(lines + ("put 1 2", "put"), "put 2 1", "error Taken")
        self.check(lines + ("put 1 2", "put"), "put", "error Taken")

    def test_drop(self):
        lines = ("new es", "put 1", "put 2", "put -1 2")
        for line, shown in (("drop 0", "es: 2; -1 2;"), ("drop 1", "es: 1; -1 2;"), ("drop 2", "es: 1; 2;")):
            self.check(lines, line, "version 4")
            self.assertEqual(told(filled(*lines, line), "show"), [shown])
        for line in ("drop 3", "drop -1", "drop 60", "drop 999999999", "drop -999999999"):
            self.check(lines, line, "error Unfit")
        for line in ("drop", "drop ", "drop 0 1", "drop 0 0", "drop  0", "drop 0 ", "drop 0\n", "Drop 0", "drop0", "drop x"):
            self.check(lines, line, "what")
        for word in WRONG_INTS:
            self.check(lines, f"drop {word}", "what")
        for word in RIGHT_INTS:
            self.check(lines, f"drop {word}", "version 4" if word in ("0", "1") else "error Unfit")

    def test_letter(self):
        self.check((), "letter e", "version 1")
        self.assertEqual(told(filled("letter e", "letter s", "letter s"), "show"), ["ess:"])
        for wrong in ("", " ", "x", "E", "es", " e", "e ", "e\n", "1", "e s", "s\n"):
            self.check(("new e",), f"letter {wrong}", "error Unfit")
        self.check(("new " + "e" * 12,), "letter s", "error TooMany")
        self.check(("new " + "e" * 12,), "letter x", "error Unfit")
        for line in ("letter", "lettere", "Letter e", "letter\ne"):
            self.check(("new e",), line, "what")

    def test_words_alone(self):
        lines = ("new es", "put 1 2", "put -1 -2")
        shell = filled(*lines)
        self.assertEqual(told(shell, "show", "found", "who", "found", "paper", "undo", "undo", "undo", "redo", "redo", "redo", "show"),
                         ["es: 1 2; -1 -2;", "0", "some", "1", paper_text(self.desk().paper()), "version 1", "version 0",
                          "error NothingToUndo", "version 1", "version 2", "error NothingToRedo", "es: 1 2; -1 -2;"])
        for word in ALONE:
            for line in (f"{word} ", f"{word} 1", f" {word}", f"{word}\n", f"\n{word}", f"{word} {word}", word.upper(), word + "s", word[:-1]):
                self.check(lines, line, "what")

    def desk(self):
        desk = Desk("es")
        for clause in ((1, 2), (-1, -2)):
            desk.put(clause)
        return desk

    def test_reply(self):
        lines = ("new es", "put 1 2", "put -1 -2")
        for line, answer in (("reply 1", "-2"), ("reply -1", "2"), ("reply", "error Unfit"), ("reply 1 2", "error Unfit"), ("reply 2", "error Unfit"),
                             ("reply 0", "error Unfit"), ("reply 1 -2", "error Unfit"), ("reply 61", "error Unfit"), ("reply 999999999", "error Unfit")):
            self.check(lines, line, answer)
        self.check(("new se", "put 1 2", "put -1 -2"), "reply 1", "2")
        self.check(("new s", "put -1"), "reply", "-1")
        self.check((), "reply", "error Unfit")
        for line in ("reply ", "reply  1", "reply 1 ", "reply 1\n", "reply x", "reply 1,2", "reply1", "Reply 1"):
            self.check(lines, line, "what")
        for word in WRONG_INTS:
            self.check(lines, f"reply {word}", "what")
        for word in RIGHT_INTS:
            self.check(lines, f"reply {word}", {"1": "-2", "-1": "2"}.get(word, "error Unfit"))

    def test_judge(self):
        dice = random.Random(1021)
        for _ in range(60):
            sentence = rich_sentence(dice, dice.randint(1, 5), dice.randint(1, 6))
            shell = filled(f"new {sentence[0]}", *["put " + " ".join(map(str, clause)) for clause in sentence[1]])
            self.assertEqual(shell.say("show"), sentence_text(sentence))
            text = paper_text(found_paper(sentence))
            self.assertEqual(told(shell, f"judge {text}", "judge " + shell.say("paper"), "found"), ["right", "right", "1"])
            for wrong in (text + " ", " " + text, text[:-1], text + "0", text.replace(":", "", 1), text + "\n", text.upper(), text.replace(" ", "  ", 1),
                          {"n": "yes", "y": "no"}[text[0]] + text[text.index(":"):], text + " d0"):
                told_by = shell.say(f"judge {wrong}")
                self.assertIn(told_by, ("right", "wrong"))
                if wrong[-1] in " \n" or wrong[0] == " ":
                    self.assertEqual(told_by, "wrong")
        lines = ("new es", "put 1 2", "put -1 -2")
        for text, expected in (("yes: l1,-2 d0 l-1,2 d2 m1,3", "right"), ("yes: l1,-2 d0 l-1,2 d2 m3,1", "right"), ("no: c0 d0 c1 d2 m1,3", "wrong"),
                               ("", "wrong"), (" ", "wrong"), ("x", "wrong"), ("yes:", "wrong"), ("yes: l", "wrong"), ("no: c7", "wrong"), ("no: c0", "wrong"),
                               ("yes: l1,-2 d0 l-1,2 d2 m01,3", "wrong"), ("yes: l60", "wrong"), ("yes: l61", "wrong")):
            self.check(lines, f"judge {text}", expected)
        for line in ("judge", "judgeyes: l", "Judge yes: l", "judge\n"):
            self.check(lines, line, "what")
        self.check((), "judge yes: l", "right")
        self.check(("put",), "judge no: c0", "right")
        self.check(("put",), "judge yes: l", "wrong")

    def test_solve(self):
        dice = random.Random(1031)
        for _ in range(80):
            sentence = rich_sentence(dice, dice.randint(0, 9), dice.randint(0, 9))
            self.check((), "solve " + sentence_text(sentence), solved(sentence)[0])
        ring = "s" * 13 + ":" + "".join([f" {k} {k + 1} {k + 2}; -{k} -{k + 1} -{k + 2};" for k in range(1, 12)])
        self.assertEqual(name_of(lambda: solved(read_sentence(ring))), "error TooMany")
        for text, expected in (("es: 1 2; -1 -2;", "some"), ("se: 1 2; -1 -2;", "each"), (":", "some"), (":;", "each"), (ring, "error TooMany"),
                               ("s" * 60 + ": 60;", "some"), ("e" * 60 + ": 60;", "each"), ("", "error BadText"), ("1", "error BadText"),
                               ("es: 2 1;", "error BadText"), (" es:", "error BadText"), ("es: ", "error BadText"), ("es:\n", "error BadText"),
                               ("e" * 61 + ":", "error BadText"), ("es: 1; 1;", "error BadText"), ("es: 1 2", "error BadText")):
            self.check(("new es", "put 1"), f"solve {text}", expected)
        for line in ("solve", "solvees:", "Solve es:", "solve\nes:"):
            self.check((), line, "what")

    def test_holds(self):
        dice = random.Random(1033)
        seen = {}
        for _ in range(120):
            formula = closed_formula(dice, dice.randint(1, 10), NAMES[:2]) if dice.random() < 0.8 else random_formula(dice, 6)
            expected = name_of(lambda: formula_solved(formula)[0])
            if not expected.startswith("error"):
                expected = "yes" if holds(formula, {}) else "no"
            self.check((), "holds " + formula_text(formula), expected)
            seen[expected] = True
        self.assertLessEqual({"yes", "no", "error Unfit"}, set(seen))
        each = "".join([f"each n{k} " for k in range(13)])
        many = "each x (" + " & ".join(["(x | !x)"] * 62) + ")"
        for text, expected in (("each x some y (x = y)", "yes"), ("some y each x (x = y)", "no"), ("yes", "yes"), ("no", "no"), (" yes ", "yes"),
                               ("\nyes\n", "yes"), ("!no", "yes"), ("x", "error Unfit"), ("each x y", "error Unfit"), ("", "error BadText"), ("yes no", "error BadText"),
                               ("x y", "error BadText"), (each + "yes", "error TooMany"), (many, "error TooMany"), ("!" * 40 + "yes", "error BadText"),
                               ("!" * 38 + "yes", "yes"), ("A", "error BadText"), ("some each x", "error BadText")):
            self.check(("new es", "put 1"), f"holds {text}", expected)
            if not expected.startswith("error"):
                self.assertEqual(expected == "yes", holds(read_formula(text), {}))
        for line in ("holds", "holdsyes", "Holds yes", "holds\nyes"):
            self.check((), line, "what")

    def test_other_lines(self):
        for line in ("", " ", "\n", "what", "help", "copy", "at 1", "log", "version", "new es put 1", "sentence", "say show", "quit", "1", "error", "x" * 20000,
                     " " * 20000, "undo undo", "show\n", "put\x00", "\u00e9"):
            expected = "error Unfit" if line == "new es put 1" else "what"
            self.check(("new e",), line, expected)

    def test_any_values(self):
        shell = filled("new es", "put 1")
        for value in any_values() + [["show"], ("show",), {"show": 1}, b"show", 0, 1, True, None, Desk("e"), Shell(), 7, ("new", "e")]:
            if isinstance(value, str) and value.startswith("no"):
                continue
            self.assertEqual(shell.say(value), "what")
            self.assertEqual(shell.say(line=value), "what")
        self.assertEqual(told(shell, "show", "undo", "redo"), ["es: 1;", "version 0", "version 1"])


class ShellTest(unittest.TestCase):
    def random_line(self, dice):
        word = dice.choice(("put",) * 6 + ("drop", "letter", "undo", "redo", "show", "who", "paper", "reply", "found", "judge", "new", "x"))
        if word in ("put", "reply"):
            return " ".join([word, *map(str, random_clause(dice, 4, 3))])
        given = {"drop": str(dice.randint(0, 3)), "letter": dice.choice("esx"), "judge": "yes: l", "new": dice.choice(("es", "sese", "x"))}.get(word)
        return word if given is None or dice.random() < 0.1 else f"{word} {given}"

    def test_two_shells_that_are_told_the_same(self):
        dice = random.Random(1039)
        for _ in range(40):
            one, other, far = Shell(), Shell(), Shell()
            for _ in range(60):
                line = self.random_line(dice)
                said = one.say(line)
                self.assertIs(type(said), str)
                far.say(self.random_line(dice))
                self.assertEqual(other.say(line), said)

    def test_beside_a_desk(self):
        dice = random.Random(1049)
        seen = {}
        for _ in range(40):
            shell, desk = Shell(), Desk("")
            for _ in range(80):
                line = self.random_line(dice)
                word, _, given = line.partition(" ")
                if word == "new":
                    made = outcome(lambda: Desk(given))
                    expected = "error Unfit" if made[0] == "raised" else "version 0"
                    desk = desk if made[0] == "raised" else Desk(given)
                elif word == "judge" and given:
                    expected = "right" if paper_error(desk.sentence, ("yes", (("lot", ()),))) is None else "wrong"
                elif word in ("judge", "x") or (word in ("drop", "letter") and not given):
                    expected = "what"
                else:
                    expected = self.said_by(desk, word, given)
                self.assertEqual(shell.say(line), expected)
                seen[expected.split(" ")[0] + (expected[5:] if expected.startswith("error") else "")] = True
        self.assertLessEqual({"version", "error Unfit", "error Taken", "error NothingToUndo", "error NothingToRedo", "each", "some"}, set(seen))

    def said_by(self, desk, word, given):
        """What is said to a line, by what the desk does."""
        numbers = tuple([int(number) for number in given.split()]) if word in ("put", "reply") else ()
        call = {"put": lambda: f"version {desk.put(numbers)}", "drop": lambda: f"version {desk.drop(int(given))}",
                "letter": lambda: f"version {desk.letter(given)}", "undo": lambda: f"version {desk.undo()}",
                "redo": lambda: f"version {desk.redo()}", "show": lambda: sentence_text(desk.sentence), "who": desk.who,
                "paper": lambda: paper_text(desk.paper()), "found": lambda: str(desk.found), "reply": lambda: str(desk.reply(numbers))}[word]
        found = outcome(call)
        return f"error {found[1].__name__}" if found[0] == "raised" else found[1][1:-1]

    def test_forty_edits(self):
        shell = filled("new eses")
        for number in range(20):
            self.assertEqual(told(shell, "put 1", "drop 0"), [f"version {2 * number + 1}", f"version {2 * number + 2}"])
        self.assertEqual(told(shell, "put 1", "letter e", "drop 0", "undo", "drop 0", "undo", "redo"),
                         ["error TooManyEdits", "error TooManyEdits", "error Unfit", "version 39", "version 40", "version 39", "version 40"])

    def test_calls(self):
        shell = Shell()
        self.assertEqual(told(shell, "show", "who", "new se", "put 2 1", "put -1 -2", "show", "who", "reply 1", "reply -1", "found"),
                         [":", "some", "version 0", "version 1", "version 2", "se: 1 2; -1 -2;", "each", "2", "-2", "1"])
        self.assertEqual(told(shell, "judge " + shell.say("paper"), "new", "found", "paper", "found"), ["right", "version 0", "0", "yes: l", "1"])


if __name__ == "__main__":
    unittest.main()
