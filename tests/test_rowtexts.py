import random
import re
import unittest

from eachsome.errors import BadText
from eachsome.rowtexts import read_rows, sentence_rows
from eachsome.sentences import sentence_error
from tests.helpers import any_values, check_call, raised, returned
from tests.making import edits_of, filled_sentence, random_sentence, sentences_of_all_sizes

FIRST = re.compile("p cnf (0|[1-9][0-9]?) (0|[1-9][0-9]{0,2})")
STRETCH = re.compile("([ae])((?: [1-9][0-9]?)+) 0")
CLAUSE = re.compile("((?:-?[1-9][0-9]? )*)0")


def plain_stretches(lines):
    """The owners that the lines of stretches at the head tell, and how many lines these are; None if wrong."""
    owners, signs = "", ""
    for line in lines:
        found = STRETCH.fullmatch(line)
        if found is None:
            break
        letters = [int(word) for word in found[2].split()]
        if signs[-1:] == found[1] or letters != list(range(len(owners) + 1, len(owners) + len(letters) + 1)):
            return None
        signs += found[1]
        owners += {"a": "e", "e": "s"}[found[1]] * len(letters)
    return owners, len(signs)


def plain_rows(text):
    """The sentence that the rows tell, read line by line; None if there is none."""
    if text[-1:] != "\n":
        return None
    first, *lines = text[:-1].split("\n")
    head, stretched = FIRST.fullmatch(first), plain_stretches(lines)
    if head is None or stretched is None:
        return None
    owners, many = stretched
    found = [CLAUSE.fullmatch(line) for line in lines[many:]]
    if None in found or int(head[1]) != len(owners) or int(head[2]) != len(found):
        return None
    sentence = (owners, tuple([tuple(map(int, match[1].split())) for match in found]))
    return sentence if sentence_error(sentence) is None else None


class SentenceRowsTest(unittest.TestCase):
    def test_rows(self):
        for sentence, text in (
            (("", ()), "p cnf 0 0\n"), (("", ((),)), "p cnf 0 1\n0\n"), (("e", ()), "p cnf 1 0\na 1 0\n"),
            (("s", ()), "p cnf 1 0\ne 1 0\n"), (("ee", ()), "p cnf 2 0\na 1 2 0\n"),
            (("ese", ((1, -3), (2,))), "p cnf 3 2\na 1 0\ne 2 0\na 3 0\n1 -3 0\n2 0\n"),
            (("ssee", ((), (-4,))), "p cnf 4 2\ne 1 2 0\na 3 4 0\n0\n-4 0\n"),
            (("s" * 11, ((10, -11),)), "p cnf 11 1\ne 1 2 3 4 5 6 7 8 9 10 11 0\n10 -11 0\n"),
        ):
            with self.subTest(text=text):
                check_call(self, sentence_rows, returned(text), sentence=sentence)
                check_call(self, read_rows, returned(sentence), value=text)

    def test_there_and_back(self):
        texts = {}
        for sentence in sentences_of_all_sizes(37):
            text = sentence_rows(sentence)
            self.assertEqual(read_rows(text), sentence)
            self.assertEqual(plain_rows(text), sentence)
            self.assertEqual(texts.setdefault(text, sentence), sentence)


class ReadRowsTest(unittest.TestCase):
    def test_any_values(self):
        for value in any_values():
            with self.subTest(value=repr(value)[:80]):
                check_call(self, read_rows, raised(BadText()), value=value)

    def test_wrong_rows(self):
        for text in (
            "", "\n", "p cnf 0 0", "p cnf 0 0\n\n", "\np cnf 0 0\n", " p cnf 0 0\n", "p cnf 0 0 \n", "p  cnf 0 0\n",
            "p cnf 00 0\n", "p cnf 0 00\n", "p cnf -0 0\n", "p cnf +0 0\n", "p cnf 0\n", "p cnf 0 0 0\n", "cnf 0 0\n",
            "p dnf 0 0\n", "p cnf 1 0\n", "p cnf 0 1\n", "p cnf 0 0\n0\n", "p cnf 0 2\n0\n0\n", "p cnf 1 0\na 1\n",
            "p cnf 1 0\na 0\n", "p cnf 0 0\na 0\n", "p cnf 0 0\na\n", "p cnf 1 0\na 1 0", "p cnf 1 0\na 2 0\n",
            "p cnf 1 0\na 01 0\n", "p cnf 1 0\na -1 0\n", "p cnf 1 0\nA 1 0\n", "p cnf 1 0\ns 1 0\n",
            "p cnf 2 0\na 2 1 0\n", "p cnf 2 0\na 1 0\na 2 0\n", "p cnf 2 0\ne 2 0\na 1 0\n", "p cnf 2 0\na 1 2 2 0\n",
            "p cnf 2 0\na 1 1 0\n", "p cnf 2 0\na 1 0\n", "p cnf 2 0\na 1 0\ne 1 2 0\n", "p cnf 3 0\na 1 3 0\n",
            "p cnf 2 1\n1 0\na 1 2 0\n", "p cnf 2 1\na 1 0\n1 0\ne 2 0\n", "p cnf 1 1\na 1 0\n1\n",
            "p cnf 1 1\na 1 0\n1 0 0\n", "p cnf 1 1\na 1 0\n 0\n", "p cnf 1 1\na 1 0\n1  0\n", "p cnf 1 1\na 1 0\n1 0 \n",
            "p cnf 1 1\na 1 0\n\n", "p cnf 1 1\na 1 0\n2 0\n", "p cnf 1 1\na 1 0\n-0 0\n", "p cnf 1 1\na 1 0\n+1 0\n",
            "p cnf 1 1\na 1 0\n1 -1 0\n", "p cnf 2 1\na 1 2 0\n2 1 0\n", "p cnf 1 2\na 1 0\n1 0\n1 0\n",
            "p cnf 1 2\na 1 0\n1 0\n", "p cnf 1 0\na 1 0\n1 0\n", "p cnf 1 1\na 1 0\n1 0\n-1 0\n", "c x\np cnf 0 0\n",
            "p cnf 1 1\na 1 0\n" + "1" * 5000 + " 0\n", "p cnf " + "0" * 5000 + " 0\n", "p cnf 0 " + "9" * 5000 + "\n",
            "p cnf 0 0\r\n", "p cnf 1 0\na\t1 0\n", "p cnf 1 0\na 1 0\n0", "es: 1;", ":", "a" * 300 + "\n" + "e \n" * 99,
            "p cnf 61 0\ne " + " ".join(map(str, range(1, 62))) + " 0\n",
        ):
            with self.subTest(text=text[:40]):
                self.assertIsNone(plain_rows(text))
                check_call(self, read_rows, raised(BadText()), value=text)

    def test_bounds(self):
        owners, clauses = filled_sentence(random.Random(41), 20, 201, 8)
        self.assertEqual(read_rows(sentence_rows((owners, clauses[:200]))), (owners, clauses[:200]))
        with self.assertRaises(BadText):
            read_rows(sentence_rows((owners, clauses)))
        for letters in (60, 61):
            rows = sentence_rows(("se" * 30 + "s" * (letters - 60), ((letters,),)))
            if letters == 60:
                self.assertEqual(read_rows(rows), ("se" * 30, ((60,),)))
            else:
                with self.assertRaises(BadText):
                    read_rows(rows)

    def check_edits(self, texts):
        taken = 0
        for edited in texts:
            expected = plain_rows(edited)
            if expected is None:
                with self.assertRaises(BadText, msg=edited):
                    read_rows(edited)
            else:
                taken += 1
                self.assertEqual(read_rows(edited), expected)
        return taken

    def test_edited_signs(self):
        dice = random.Random(43)
        taken = 0
        for _ in range(40):
            rows = sentence_rows(random_sentence(dice, dice.randint(0, 11), 4))
            taken += self.check_edits(edits_of(rows, " \n-0123aep+6"))
        self.assertGreater(taken, 200)

    def test_edited_lines(self):
        dice = random.Random(47)
        for _ in range(200):
            lines = sentence_rows(random_sentence(dice, dice.randint(0, 8), 4)).split("\n")[:-1]
            texts = []
            for at in range(len(lines)):
                for to in range(len(lines) + 1):
                    moved = lines[:at] + lines[at + 1:]
                    texts.append("\n".join(moved[:to] + [lines[at]] + moved[to:]) + "\n")
                    texts.append("\n".join(lines[:to] + [lines[at]] + lines[to:]) + "\n")
                texts.append("".join([line + "\n" for line in lines[:at] + lines[at + 1:]]))
            self.check_edits(texts)


if __name__ == "__main__":
    unittest.main()
