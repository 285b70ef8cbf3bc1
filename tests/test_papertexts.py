import random
import re
import unittest

from eachsome.errors import BadText
from eachsome.papertexts import paper_text, read_paper
from tests.finding import found_paper
from tests.helpers import any_values, check_call, raised, returned
from tests.making import edits_of, random_clause, random_sentence
from tests.plain import plain_row

MAX_STEPS = 600000
NUMBER = "(?:0|[1-9][0-9]{0,5})"
STEP = re.compile(f"c({NUMBER})|l((?:-?[1-9][0-9]?(?:,-?[1-9][0-9]?)*)?)|d({NUMBER})|m({NUMBER}),({NUMBER})")


def plain_step(side, text):
    """The step of which text is the text, read as a form of signs; None if there is none."""
    found = STEP.fullmatch(text)
    if found is None:
        return None
    place, row, dropped, one, other = found.groups()
    if place is not None:
        return ("clause", int(place)) if side == "no" and int(place) < 200 else None
    if row is not None:
        literals = tuple(map(int, row.split(","))) if row else ()
        return ("lot", literals) if side == "yes" and plain_row(literals, 60) else None
    numbers = [int(number) for number in (dropped, one, other) if number is not None]
    if max(numbers) >= MAX_STEPS:
        return None
    return ("drop", numbers[0]) if dropped is not None else ("meet", *numbers)


def plain_paper(text):
    """The loose paper of which text is the text; None if there is none."""
    head, *words = text.split(" ")
    if head not in ("no:", "yes:") or not 1 <= len(words) <= MAX_STEPS:
        return None
    steps = tuple([plain_step(head[:-1], word) for word in words])
    return None if None in steps else (head[:-1], steps)


def random_number(dice, top):
    """A number below top, often one near to an end or of few figures."""
    number = dice.choice((0, 1, 9, 10, 99, 100, top - 1, top - 2, dice.randrange(top), dice.randrange(top)))
    return min(number, top - 1)


def random_loose_step(dice, side):
    word = dice.choice(("first", "first", "drop", "meet"))
    if word == "first" and side == "no":
        return ("clause", random_number(dice, 200))
    if word == "first":
        return ("lot", random_clause(dice, 60, dice.choice((1, 3, 60))))
    return (word, *[random_number(dice, MAX_STEPS) for _ in range(1 if word == "drop" else 2)])


def random_loose_paper(dice, many):
    side = dice.choice(("no", "yes"))
    return (side, tuple([random_loose_step(dice, side) for _ in range(many)]))


class ThereAndBackTest(unittest.TestCase):
    def check(self, paper, texts):
        text = paper_text(paper)
        self.assertEqual(read_paper(text), paper)
        self.assertEqual(plain_paper(text), paper)
        self.assertEqual(texts.setdefault(text, paper), paper)

    def test_loose_papers(self):
        dice = random.Random(167)
        texts = {}
        for many in [1] * 200 + [2, 3, 5, 8] * 60 + [1000, 5000]:
            self.check(random_loose_paper(dice, many), texts)

    def test_papers(self):
        dice = random.Random(173)
        texts = {}
        for _ in range(200):
            self.check(found_paper(random_sentence(dice, dice.randint(0, 6), 6)), texts)

    def test_all_places_and_literals(self):
        steps = tuple([("clause", place) for place in range(200)])
        self.check(("no", steps), {})
        self.assertEqual(paper_text(("no", steps)), "no: " + " ".join([f"c{place}" for place in range(200)]))
        self.check(("yes", tuple([("lot", (sign * k,)) for k in range(1, 61) for sign in (1, -1)])), {})
        self.check(("yes", (("lot", tuple(range(1, 61))), ("lot", tuple(range(-1, -61, -1))), ("lot", ()))), {})

    def test_calls(self):
        for paper, text in (
            (("no", (("clause", 0), ("drop", 0), ("clause", 1), ("drop", 2), ("meet", 1, 3))), "no: c0 d0 c1 d2 m1,3"),
            (("yes", (("lot", (1, -2)), ("drop", 0))), "yes: l1,-2 d0"), (("yes", (("lot", ()),)), "yes: l"),
            (("yes", (("lot", ()), ("lot", (-60,)))), "yes: l l-60"), (("no", (("meet", 3, 9),)), "no: m3,9"),
            (("no", (("clause", 199), ("drop", 599999), ("meet", 599999, 0))), "no: c199 d599999 m599999,0"),
            (("yes", (("drop", 0), ("meet", 0, 0))), "yes: d0 m0,0"), (("yes", (("lot", (10, -20, 60)),)), "yes: l10,-20,60"),
        ):
            with self.subTest(text=text):
                check_call(self, paper_text, returned(text), paper=paper)
                check_call(self, read_paper, returned(paper), value=text)

    def test_most_steps(self):
        text = "no:" + " c7" * MAX_STEPS
        paper = ("no", (("clause", 7),) * MAX_STEPS)
        self.assertEqual(paper_text(paper), text)
        self.assertEqual(read_paper(text), paper)
        with self.assertRaises(BadText):
            read_paper(text + " c7")


class ReadPaperTest(unittest.TestCase):
    def test_any_values(self):
        for value in any_values():
            with self.subTest(value=repr(value)[:60]):
                check_call(self, read_paper, raised(BadText()), value=value)

    def test_wrong_texts(self):
        figures = "1" * 5000
        for text in (
            "", "no", "no:", "yes:", "no: ", "yes: ", "no:c0", " no: c0", "no: c0 ", "no:  c0", "no: c0  c1", "no : c0",
            "no: c0\n", "\nno: c0", "no:\nc0", "no: c0\nc1", "NO: c0", "maybe: c0", "n: c0", "no: C0", "no: c", "no: d",
            "no: m", "no: m1", "no: m1,", "no: m,1", "no: m,", "no: m1,2,3", "no: m1, 2", "no: m1 2", "no: m1;2",
            "no: c 0", "no: c0,1", "no: d0,1", "no: c00", "no: c01", "no: d00", "no: d01", "no: m00,1", "no: m1,00",
            "no: c-1", "no: c-0", "no: d-0", "no: d-1", "no: m-1,0", "no: m0,-1", "no: m-0,0", "no: c+1", "no: d+1",
            "no: c200", "no: c201", "no: c999", "no: c1000", "no: d600000", "no: d600001", "no: d999999", "no: d1000000",
            "no: m600000,0", "no: m0,600000", "no: l1", "no: l", "no: l-1,2", "yes: c0", "yes: c199", "yes: l0",
            "yes: l-0", "yes: l1,0", "yes: l61", "yes: l-61", "yes: l1,61", "yes: l2,1", "yes: l-2,1", "yes: l1,1",
            "yes: l-1,-1", "yes: l1,-1", "yes: l-1,1", "yes: l01", "yes: l-01", "yes: l+1", "yes: l--1", "yes: l,",
            "yes: l,1", "yes: l1,", "yes: l1,,2", "yes: l1, 2", "yes: l1 2", "yes: l1.2", "yes: l 1", "yes: l-",
            "yes: l1-2", "yes: lx", "yes: x1", "yes: 1", "no: 0", "no: c0x", "no: c0 x", "no: c0,", "no:: c0", "no: c0:",
            "no: c" + figures, "no: d" + figures, "no: m1," + figures, "no: m" + figures + ",1", "yes: l" + figures,
            "yes: l-" + figures, "yes: l1," + figures, "no: c" + "0" * 5000, "no: c1_0", "no: d1_000", "no: c1e1",
            "no: c\u0661", "no: c\u00b2", "no:\u00a0c0", "no:\tc0", "no: c0\r", "c0", ": c0", "es: 1;", "p cnf 0 0\n",
            "no: clause0", "yes: lot1", "yes:l", "yes: l:", "no: c0; c1", "no: c0,c1",
        ):
            with self.subTest(text=text[:40]):
                self.assertIsNone(plain_paper(text))
                check_call(self, read_paper, raised(BadText()), value=text)

    def test_edited_texts(self):
        dice = random.Random(179)
        taken = 0
        for many in [1, 2, 3, 4] * 12:
            for edited in edits_of(paper_text(random_loose_paper(dice, many)), " ,:-019cdlmnoyes+\n6"):
                expected = plain_paper(edited)
                if expected is None:
                    with self.assertRaises(BadText, msg=edited):
                        read_paper(edited)
                else:
                    taken += 1
                    self.assertEqual(read_paper(edited), expected)
        self.assertGreater(taken, 1000)


if __name__ == "__main__":
    unittest.main()
