import random
import unittest

from eachsome.errors import Unfit
from eachsome.sentences import clause_of, less, owner_of, sentence_error
from tests.helpers import any_values, check_call, raised, returned
from tests.making import filled_sentence, random_sentence, sentences_of_all_sizes


def whole(value):
    return type(value) is int


def plain_clause(value, letters):
    """Whether value is a clause, as [A4] tells it, one demand behind another."""
    if type(value) is not tuple or not all([whole(item) for item in value]):
        return False
    if not all([-letters <= item <= letters and item != 0 for item in value]):
        return False
    names = [abs(item) for item in value]
    return names == sorted(set(names))


def plain_error(value):
    if type(value) is not tuple or len(value) != 2 or type(value[1]) is not tuple or len(value[1]) > 200:
        return "form"
    owners, clauses = value
    if type(owners) is not str or len(owners) > 60 or set(owners) - set("es"):
        return "owners"
    wrong = [place for place in range(len(clauses)) if not plain_clause(clauses[place], len(owners))]
    if wrong:
        return ("clause", wrong[0])
    again = [place for place in range(len(clauses)) if clauses[place] in clauses[:place]]
    return ("twice", again[0]) if again else None


class SentenceErrorTest(unittest.TestCase):
    def check(self, value, expected):
        self.assertEqual(plain_error(value), expected)
        check_call(self, sentence_error, returned(expected), value=value)

    def test_sentences(self):
        for sentence in sentences_of_all_sizes(11):
            with self.subTest(sentence=repr(sentence)[:80]):
                self.check(sentence, None)

    def test_any_values(self):
        for value in any_values():
            with self.subTest(value=repr(value)[:80]):
                error = sentence_error(value)
                self.assertIsNotNone(error)
                self.check(value, error)
                self.assertIs(type(error), type(plain_error(value)))

    def test_form(self):
        for value in (("es",), ("es", (), ()), ["es", ()], ("es", []), ("es", {}), ("es", "e"), (), "es", None,
                      {"es": ()}, (7, None), ("x", None), ("e" * 61, [])):
            with self.subTest(value=value):
                self.check(value, "form")

    def test_bounds_of_clauses(self):
        _, clauses = filled_sentence(random.Random(3), 12, 202, 12)
        self.check(("e" * 12, clauses[:200]), None)
        self.check(("e" * 12, clauses[:199]), None)
        self.check(("e" * 12, clauses[:201]), "form")
        self.check(("x" * 12, clauses), "form")
        self.check(("e", ((),) * 201), "form")
        self.check(("e", ((),) * 200), ("twice", 1))

    def test_owners(self):
        for owners in ("x", "E", "S", "es ", " es", "e\n", "e" * 61, "s" * 20000, "esx", None, True, 1, ["e"],
                       ("e",), {"e": 1}, {"e": "s"}):
            with self.subTest(owners=repr(owners)[:40]):
                self.check((owners, ()), "owners")
                self.check((owners, ((0,), None)), "owners")
        for owners in ("", "e", "s", "e" * 60, "s" * 60, "es" * 30):
            self.check((owners, ()), None)

    def test_literals(self):
        for clause in ((0,), (1, 0), (0, 1), (4,), (-4,), (1, 4), (2, 1), (3, 2), (1, 1), (-1, -1), (1, -1), (-1, 1),
                       (1, 2, -2), (True,), (False,), (1, True), (True, 2), ("1",), (None,), (1, None), ((1,),),
                       [1], [], {}, None, "", 0, 1, True, {1: 1}, (10 ** 399,), (-(10 ** 399),), (1, [2])):
            with self.subTest(clause=repr(clause)[:40]):
                self.check(("ese", (clause,)), ("clause", 0))
                self.check(("ese", ((), (1,), clause, (2,))), ("clause", 2))
        for clause in ((), (1,), (-1,), (3,), (-3,), (1, 3), (-1, -2, -3), (1, -2, 3)):
            self.check(("ese", (clause,)), None)
        self.check(("e" * 60, ((60,), (-60,), (1, -60))), None)
        self.check(("e" * 60, ((61,),)), ("clause", 0))
        self.check(("e" * 60, ((-61,),)), ("clause", 0))
        self.check(("", ((1,),)), ("clause", 0))
        self.check(("", ((-1,),)), ("clause", 0))

    def test_twice(self):
        self.check(("es", ((1,), (2,), (1,))), ("twice", 2))
        self.check(("es", ((1,), (2,), (2,), (1,))), ("twice", 2))
        self.check(("es", ((), ())), ("twice", 1))
        self.check(("es", ((1,), (-1,), (1, 2), (1, -2), (-1, 2), (-1, -2))), None)
        self.check(("es", ((-1,), (-2,))), None)

    def test_clauses_come_ahead_of_what_stands_twice(self):
        self.check(("es", ((1,), (1,), (3,))), ("clause", 2))
        self.check(("es", ((1,), (1,), (True,))), ("clause", 2))
        self.check(("es", ((1,), (True,), (1,))), ("clause", 1))
        self.check(("es", ((3,), (3,), (1,), (1,))), ("clause", 0))
        self.check(("es", ((1,), (1,), None, (0,))), ("clause", 2))

    def test_changed_sentences(self):
        dice = random.Random(5)
        parts = (None, True, False, 0, 1, -1, 2, -2, 5, 6, (), (1,), (2, 1), [1], "e", "es", (True,), ((),), 10 ** 20)
        for _ in range(1500):
            owners, clauses = random_sentence(dice, dice.randint(0, 5), 4)
            made = [list(clause) for clause in clauses]
            for _ in range(dice.randint(1, 2)):
                if made and dice.random() < 0.4:
                    made.insert(dice.randint(0, len(made)), list(dice.choice(made)))
                elif made:
                    clause = dice.choice(made)
                    clause.insert(dice.randint(0, len(clause)), dice.choice(parts))
            value = (owners, tuple([tuple(clause) for clause in made]))
            self.assertEqual(repr(sentence_error(value)), repr(plain_error(value)), value)


class ClauseOfTest(unittest.TestCase):
    def test_any_order_and_more_than_once(self):
        dice = random.Random(7)
        for _ in range(400):
            letters = dice.sample(range(1, 61), dice.randint(0, 60))
            literals = [dice.choice((-1, 1)) * letter for letter in letters]
            clause = tuple(sorted(literals, key=abs))
            again = literals + [dice.choice(literals) for _ in range(dice.randint(0, 5)) if literals]
            dice.shuffle(again)
            self.assertEqual(clause_of(clause), clause)
            self.assertEqual(clause_of(tuple(literals)), clause)
            self.assertEqual(clause_of(tuple(again)), clause)
            if literals:
                again.insert(dice.randint(0, len(again)), -dice.choice(literals))
                with self.assertRaises(Unfit):
                    clause_of(tuple(again))

    def test_calls(self):
        for literals, expected in (((), ()), ((1,), (1,)), ((-60, 60 - 1), (59, -60)), ((3, 3, 3), (3,)),
                                   ((-2, -1), (-1, -2)), ((5, -4, 5, -4), (-4, 5))):
            check_call(self, clause_of, returned(expected), literals=literals)
        for literals in ((1, -1), (-1, 1), (1, 2, -1), (-60, 1, 60), (2, 2, -2), (2, -2, 2), (2, -2, -2)):
            check_call(self, clause_of, raised(Unfit()), literals=literals)


class OwnerOfTest(unittest.TestCase):
    def test_each_letter(self):
        for sentence in sentences_of_all_sizes(13):
            found = [owner_of(sentence, letter) for letter in range(1, len(sentence[0]) + 1)]
            self.assertEqual("".join(found), sentence[0])

    def test_calls(self):
        check_call(self, owner_of, returned("e"), sentence=("es", ((1,),)), letter=1)
        check_call(self, owner_of, returned("s"), sentence=("es", ((1,),)), letter=2)


class LessTest(unittest.TestCase):
    def test_none_some_all(self):
        dice = random.Random(17)
        for sentence in sentences_of_all_sizes(19):
            owners, clauses = sentence
            for many in {0, 1, len(clauses) // 2, len(clauses)}:
                if many <= len(clauses):
                    places = tuple(sorted(dice.sample(range(len(clauses)), many)))
                    kept = [clauses[place] for place in range(len(clauses)) if place not in places]
                    found = less(sentence, places)
                    self.assertEqual(found, (owners, tuple(kept)))
                    self.assertIsNone(sentence_error(found))
                    self.assertEqual(less(found, ()), found)

    def test_calls(self):
        sentence = ("es", ((1,), (), (2,)))
        for places, clauses in (((), ((1,), (), (2,))), ((0,), ((), (2,))), ((1,), ((1,), (2,))), ((2,), ((1,), ())),
                                ((0, 2), ((),)), ((0, 1, 2), ())):
            check_call(self, less, returned(("es", clauses)), sentence=sentence, places=places)


if __name__ == "__main__":
    unittest.main()
