import random
import re
import unittest

from eachsome.errors import BadText
from eachsome.sentences import sentence_error
from eachsome.sentencetexts import read_sentence, sentence_text
from tests.helpers import any_values, check_call, raised, returned
from tests.making import edits_of, filled_sentence, random_sentence, sentences_of_all_sizes

FORM = re.compile("([es]{0,60}):((?: -?[1-9][0-9]{0,1}|;)*)")


def plain_sentence(text):
    """The sentence that text tells, read as a form of signs; None if there is none."""
    found = FORM.fullmatch(text)
    if found is None or (found[2] and found[2][-1] != ";"):
        return None
    clauses = [tuple(map(int, clause.split())) for clause in found[2].split(";")[:-1]]
    sentence = (found[1], tuple(clauses))
    return sentence if sentence_error(sentence) is None else None


class SentenceTextTest(unittest.TestCase):
    def test_texts(self):
        for sentence, text in (
            (("", ()), ":"), (("e", ()), "e:"), (("", ((),)), ":;"), (("s", ((), (1,))), "s:; 1;"),
            (("es", ((-1, 2), (1, -2))), "es: -1 2; 1 -2;"), (("es", ((1,), (), (2,))), "es: 1;; 2;"),
            (("s" * 60, ((-10, 60),)), "s" * 60 + ": -10 60;"),
        ):
            with self.subTest(text=text):
                check_call(self, sentence_text, returned(text), sentence=sentence)
                check_call(self, read_sentence, returned(sentence), value=text)

    def test_there_and_back(self):
        texts = {}
        for sentence in sentences_of_all_sizes(23):
            text = sentence_text(sentence)
            self.assertEqual(read_sentence(text), sentence)
            self.assertEqual(plain_sentence(text), sentence)
            self.assertEqual(texts.setdefault(text, sentence), sentence)


class ReadSentenceTest(unittest.TestCase):
    def test_any_values(self):
        for value in any_values():
            with self.subTest(value=repr(value)[:80]):
                check_call(self, read_sentence, raised(BadText()), value=value)

    def test_wrong_texts(self):
        for text in (
            "", "es", "es 1;", "es:1;", "es: 1", "es: 1 ;", "es:  1;", "es: 1  2;", "es: 1; ", " es: 1;", "es: 1;\n",
            "\nes: 1;", "es:\n1;", "es: 01;", "es: 00;", "es: 0;", "es: -0;", "es: +1;", "es: --1;", "es: - 1;",
            "es: -01;", "es: 1-;", "es: 1,2;", "es: 2 1;", "es: 1 1;", "es: 1 -1;", "es: -1 1;", "es: 3;", "es: -3;",
            "es: 1 3;", "es: 61;", "es: 1; 1;", "es:;;", "es: 1;2;", "es: 1;; 1;", "es:: 1;", "es: 1:;", "ES: 1;",
            "ea: 1;", "a 1", ": 1;", "e" * 61 + ":", "e" * 61 + ": 61;", "es: 1_0;", "es: 1.0;", "es: 1e0;", "es: x;",
            "es: \u0661;", "es: \u00b2;", "es:\u00a01;", "es:\t1;", "es: 1\r;", "es:;" * 2, "es: " + "1" * 5000 + ";",
            "es: -" + "9" * 19000 + ";", "es: " + "0" * 5000 + "1;", "es" + ":" * 300, "p cnf 0 0\n",
        ):
            with self.subTest(text=text[:40]):
                self.assertIsNone(plain_sentence(text))
                check_call(self, read_sentence, raised(BadText()), value=text)

    def test_bounds(self):
        sentence = filled_sentence(random.Random(29), 20, 201, 8)
        text = sentence_text((sentence[0], sentence[1][:200]))
        self.assertEqual(read_sentence(text), (sentence[0], sentence[1][:200]))
        with self.assertRaises(BadText):
            read_sentence(sentence_text(sentence))
        with self.assertRaises(BadText):
            read_sentence("e:" + ";" * 201)
        self.assertEqual(read_sentence("e" * 60 + ": 60; -60;"), ("e" * 60, ((60,), (-60,))))
        with self.assertRaises(BadText):
            read_sentence("e" * 60 + ": 61;")

    def check_edits(self, text):
        taken = 0
        for edited in edits_of(text, ": ;-0123e+s\nx6"):
            expected = plain_sentence(edited)
            if expected is None:
                with self.assertRaises(BadText, msg=edited):
                    read_sentence(edited)
            else:
                taken += 1
                self.assertEqual(read_sentence(edited), expected)
        return taken

    def test_edited_texts(self):
        dice = random.Random(31)
        taken = 0
        for _ in range(60):
            taken += self.check_edits(sentence_text(random_sentence(dice, dice.randint(0, 12), 4)))
        self.assertGreater(taken, 500)


if __name__ == "__main__":
    unittest.main()
