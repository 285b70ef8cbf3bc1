import unittest

from eachsome.drafts import Draft
from eachsome.papers import paper_error

GUESS = ("se", ((1, 2), (-1, -2)))


class DraftTest(unittest.TestCase):
    def test_no_row_is_made_twice(self):
        draft = Draft("se", "no")
        numbers = [draft.put(("clause", place), GUESS[1][place]) for place in (0, 1, 0, 1)]
        self.assertEqual(numbers, [0, 1, 0, 1])
        self.assertEqual([draft.shortened(0), draft.shortened(0), draft.shortened(1)], [2, 2, 3])
        self.assertEqual([draft.joined(2, 3), draft.joined(3, 2), draft.joined(2, 3)], [4, 4, 4])
        self.assertEqual(draft.rows, [(1, 2), (-1, -2), (1,), (-1,), ()])

    def test_no_drop_is_idle(self):
        draft = Draft("es", "no")
        number = draft.put(("clause", 0), (1, 2))
        self.assertEqual(draft.shortened(number), number)
        self.assertEqual(draft.steps, [("clause", 0)])
        self.assertEqual(draft.shortened(draft.put(("clause", 1), ())), 1)

    def test_the_paper_is_trimmed(self):
        draft = Draft("se", "no")
        first, other = [draft.put(("clause", place), GUESS[1][place]) for place in (0, 1)]
        draft.put(("clause", 2), (2,))
        end = draft.joined(draft.shortened(other), draft.shortened(first))
        draft.put(("clause", 3), (-2,))
        paper = draft.paper(end)
        self.assertEqual(paper, ("no", (("clause", 0), ("clause", 1), ("drop", 1), ("drop", 0), ("meet", 2, 3))))
        self.assertIsNone(paper_error(GUESS, paper))


if __name__ == "__main__":
    unittest.main()
