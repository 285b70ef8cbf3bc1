"""All examples of the document, as it tells them."""

import os
import unittest

from eachsome import errors

PARTS = (("a", 22), ("b", 10), ("c", 25), ("d", 15), ("e", 10), ("f", 21), ("g", 15), ("h", 17), ("i", 22),
         ("j", 26), ("k", 20), ("l", 18))
FOLDER = os.path.dirname(os.path.abspath(__file__))


def examples_in(text):
    """Pairs of what is to be done and of the lines that tell what comes of it."""
    found = []
    for line in text.splitlines():
        if line.startswith(">>> "):
            found.append((line[4:], []))
        elif line:
            found[-1][1].append(line)
    return [(code, "\n".join(told)) for code, told in found]


class ExamplesTest(unittest.TestCase):
    def check(self, names, code, told):
        if code.startswith("from ") or (" = " in code and not told):
            exec(code, names)
        elif told.startswith("raises "):
            wanted = eval(told.removeprefix("raises "), vars(errors))
            with self.assertRaises(type(wanted)) as caught:
                eval(code, names)
            self.assertIs(type(caught.exception), type(wanted))
            self.assertEqual(vars(caught.exception), vars(wanted))
        else:
            result = eval(code, names)
            self.assertEqual("" if result is None else repr(result), told)

    def test_examples(self):
        names = {}
        for part, many in PARTS:
            with open(os.path.join(FOLDER, f"examples_{part}.txt"), encoding="utf-8") as file:
                examples = examples_in(file.read())
            self.assertEqual(len(examples), many)
            for code, told in examples:
                with self.subTest(part=part, code=code):
                    self.check(names, code, told)


if __name__ == "__main__":
    unittest.main()
