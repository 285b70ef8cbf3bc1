import random
import unittest

from eachsome.lessening import done_step, done_steps, lessened, step_error, steps_error
from eachsome.meaning import winner
from eachsome.sentences import sentence_error
from tests.finding import rich_sentence
from tests.helpers import any_values, check_call, returned
from tests.making import all_owners, filled_sentence, random_owners, random_sentence
from tests.plain_lessening import (
    all_steps, lessening_steps, many_literals, plain_done, plain_lessened, plain_step_error,
)

KNOT = ("ses", ((1, 2), (-1, 3), (3,), (-2, -3), (2, 3)))
TOLD = ("sees", ((1, -2), (-1, 3, 4), (4,)))
WORDS = ("drop", "unit", "lone", "covered")


def small_sentences(seed, many):
    dice = random.Random(seed)
    for _ in range(many):
        letters = dice.randint(0, 6)
        yield dice, random_sentence(dice, letters, dice.randint(0, 9), 3)
        yield dice, rich_sentence(dice, letters, dice.randint(1, 8))


def great_sentences(seed):
    """Sentences of sixty letters and up to two hundred clauses, with many steps, with few, with none."""
    dice = random.Random(seed)
    for owners in ("es" * 30, "e" * 60, "s" * 60, "s" * 30 + "e" * 30, "e" * 30 + "s" * 30, random_owners(dice, 60)):
        for most in (2, 3, 6, 60):
            clauses = filled_sentence(dice, 60, 200, most)[1]
            yield (owners, clauses)
            yield (owners, tuple([clause for clause in clauses if clause]))
    both = [tuple([dice.choice((-1, 1)) * k for k in range(1, 61)]) for _ in range(150)]
    yield ("es" * 30, tuple(both))
    yield ("es" * 30, tuple(both) + tuple([(k,) for k in range(2, 61, 2)]))
    yield ("s" * 60, tuple([tuple(range(1, k)) for k in range(1, 61)]))
    yield ("s" * 60, tuple([tuple(range(k, 61)) for k in range(1, 61)]))


class StepErrorTest(unittest.TestCase):
    def check(self, sentence, value, expected):
        self.assertEqual(plain_step_error(sentence, value), expected)
        check_call(self, step_error, returned(expected), sentence=sentence, value=value)

    def test_each_word_in_its_order(self):
        for value, expected in (
            (("drop", 0), None), (("drop", 1), "idle"), (("unit", 2), None), (("unit", 0), "idle"), (("lone", 3), "idle"),
            (("lone", 4), "letter"), (("covered", 4, 2), None), (("covered", 2, 4), "idle"), (("covered", 1, 1), "place"),
            (("covered", 0, 9), "place"), (("unit", True), "form"), (["drop", 0], "form"), (("go", 1), "form"),
            (("lone", 0), "letter"), (("lone", -4), "letter"), (("lone", -3), "idle"), (("lone", 10 ** 399), "letter"),
            (("lone", -(10 ** 399)), "letter"), (("drop", 5), "place"), (("drop", -1), "place"), (("unit", 5), "place"),
            (("unit", -1), "place"), (("drop", 10 ** 399), "place"), (("unit", -(10 ** 399)), "place"),
            (("covered", -1, 0), "place"), (("covered", 0, -1), "place"), (("covered", 0, 10 ** 399), "place"),
            (("covered", 9, 9), "place"), (("covered", -1, -1), "place"), (("covered", 1, 2), None),
            (("covered", 0, 2), "idle"), (("drop", 0, 0), "form"), (("unit", 0, 0), "form"), (("lone", 1, 1), "form"),
            (("covered", 4), "form"), (("covered", 4, 2, 0), "form"), (("drop",), "form"), ((), "form"), (None, "form"),
            (("drop", None), "form"), (("drop", (0,)), "form"), (("drop", "0"), "form"), (("lone", True), "form"),
            (("covered", True, 0), "form"), (("covered", 4, False), "form"), ((None, 0), "form"), (([], 0), "form"),
            (({}, 0), "form"), ((("drop",), 0), "form"), (("Drop", 0), "form"), (("", 0), "form"), (("units", 0), "form"),
            ("drop", "form"), ({"drop": 0}, "form"), ((0, "drop"), "form"), (("clause", 0), "form"), (("meet", 0, 1), "form"),
        ):
            with self.subTest(value=repr(value)[:40]):
                self.check(KNOT, value, expected)

    def test_unit_and_lone_by_owners(self):
        for sentence, value, expected in (
            (("e", ((1,),)), ("unit", 0), "idle"), (("s", ((1,),)), ("unit", 0), None), (("s", ((),)), ("unit", 0), "idle"),
            (("s", ((-1,),)), ("unit", 0), None), (("e", ((1,),)), ("lone", 1), None), (("e", ((1,),)), ("lone", -1), "idle"),
            (("s", ((-1,),)), ("lone", -1), None), (("s", ()), ("lone", 1), "idle"), (("", ()), ("lone", 1), "letter"),
            (("", ()), ("drop", 0), "place"), (("", ((),)), ("drop", 0), "idle"), (("e", ((), (1,))), ("covered", 1, 0), None),
            (("e", ((), (1,))), ("covered", 0, 1), "idle"), (("e", ((1,), (-1,))), ("lone", 1), "idle"),
            (("e" * 60, ((60,),)), ("lone", 60), None), (("e" * 60, ((60,),)), ("lone", 61), "letter"),
        ):
            self.check(sentence, value, expected)

    def test_any_values(self):
        for value in any_values():
            for sentence in (KNOT, ("", ()), ("es" * 30, ((60,),))):
                self.check(sentence, value, "form")
            for word in WORDS:
                for step in ((word, value), (word, 0, value), (word, value, 0), (value, 0)):
                    self.assertEqual(step_error(KNOT, step), plain_step_error(KNOT, step))

    def test_every_step_of_small_sentences(self):
        seen = {}
        for _, sentence in small_sentences(307, 150):
            values = list(all_steps(sentence))
            values.extend([(word, k) for word in WORDS for k in (-1, len(sentence[1]), len(sentence[0]) + 1, 0)])
            for value in values:
                expected = plain_step_error(sentence, value)
                seen[(value[0], expected)] = True
                self.assertEqual(step_error(sentence, value), expected, (sentence, value))
        self.assertLessEqual({(word, error) for word in WORDS for error in (None, "idle")}, set(seen))


class DoneStepTest(unittest.TestCase):
    def test_every_step_of_small_sentences(self):
        seen = {}
        for _, sentence in small_sentences(311, 300):
            who = winner(sentence, ())
            for step in lessening_steps(sentence):
                behind = done_step(sentence, step)
                self.assertEqual(behind, plain_done(sentence, step), (sentence, step))
                self.assertIsNone(sentence_error(behind))
                self.assertEqual(winner(behind, ()), who, (sentence, step))
                size, left = [len(told[1]) + many_literals(told) for told in (sentence, behind)]
                self.assertLess(left, size)
                seen[(step[0], who)] = seen.get((step[0], who), 0) + 1
        self.assertEqual(len(seen), 8)
        self.assertGreater(min(seen.values()), 15)

    def test_calls(self):
        for sentence, step, clauses in (
            (KNOT, ("drop", 0), ((1,), (-1, 3), (3,), (-2, -3), (2, 3))), (KNOT, ("unit", 2), ((1, 2), (-2,))),
            (KNOT, ("covered", 4, 2), ((1, 2), (-1, 3), (3,), (-2, -3))),
            (("es", ((1, 2), (1, -2), (2,))), ("lone", 1), ((2,), (-2,))),
            (("se", ((1, 2), (1, -2), (-2,))), ("lone", 1), ((-2,),)),
            (("se", ((1,), (1, 2), (1, -2))), ("drop", 1), ((1,), (1, -2))),
            (("se", ((1, 2), (1,), (1, -2))), ("drop", 0), ((1,), (1, -2))),
            (("ses", ((1, 2), (1, -2, 3), (1,))), ("drop", 0), ((1,), (1, -2, 3))),
            (("ee", ((1, 2), (-1,))), ("drop", 0), ((), (-1,))), (("ee", ((), (1, 2))), ("drop", 1), ((),)),
            (("s", ((1,), (-1,))), ("unit", 0), ((),)), (("s", ((1,), (-1,))), ("unit", 1), ((),)),
            (("sss", ((1,), (-1, 2), (2,), (-1, 3), (1, 3))), ("unit", 0), ((2,), (3,))),
            (("sss", ((-1,), (1, 2), (-1, 2), (2,), (3,))), ("unit", 0), ((2,), (3,))),
            (("e", ((1,),)), ("lone", 1), ((),)), (("e", ((-1,), ())), ("lone", -1), ((),)),
            (("s", ((-1,), ())), ("lone", -1), ((),)), (("es", ((2,), (-1, 2), (-1, -2))), ("lone", -1), ((2,), (-2,))),
            (("e", ((1,), (), (-1,))), ("covered", 0, 1), ((), (-1,))),
        ):
            check_call(self, done_step, returned((sentence[0], clauses)), sentence=sentence, step=step)
            self.assertEqual(plain_done(sentence, step), (sentence[0], clauses))


class StepsTest(unittest.TestCase):
    def test_right_steps(self):
        for dice, sentence in small_sentences(313, 150):
            steps, now = [], sentence
            while lessening_steps(now) and dice.random() < 0.9:
                steps.append(dice.choice(lessening_steps(now)))
                now = plain_done(now, steps[-1])
            self.assertIsNone(steps_error(sentence, tuple(steps)))
            self.assertEqual(done_steps(sentence, tuple(steps)), now)
            self.assertEqual(winner(now, ()), winner(sentence, ()))
            for odd in (None, ("drop", -1), ("lone", 0), [], ("unit", True), ("drop", 99), ("covered", 0, 0)):
                place = dice.randint(0, len(steps))
                here = done_steps(sentence, tuple(steps[:place]))
                value = tuple(steps[:place] + [odd] + steps[place:])
                self.assertEqual(steps_error(sentence, value), (place, plain_step_error(here, odd)))

    def test_steps_of_the_sentence_ahead_alone(self):
        dice = random.Random(317)
        seen = {}
        for _, sentence in small_sentences(331, 200):
            values = list(all_steps(sentence))
            value = tuple([dice.choice(values) for _ in range(dice.randint(1, 4)) if values])
            expected, now = None, sentence
            for place, step in enumerate(value):
                word = plain_step_error(now, step)
                if word is not None:
                    expected = (place, word)
                    break
                now = plain_done(now, step)
            seen[expected] = True
            self.assertEqual(steps_error(sentence, value), expected)
        self.assertLessEqual({None, (0, "idle"), (1, "idle"), (1, "place"), (2, "idle")}, set(seen))

    def test_any_values(self):
        for value in any_values():
            expected = "form" if type(value) is not tuple else None if value == () else (0, "form")
            check_call(self, steps_error, returned(expected), sentence=KNOT, value=value)
            check_call(self, steps_error, returned((1, "form")), sentence=KNOT, value=(("drop", 0), value))

    def test_calls(self):
        for value, expected in (((), None), ((("drop", 0), ("unit", 0), ("unit", 0)), (2, "idle")), ([("drop", 0)], "form"),
                                ((("drop", 0), None), (1, "form")), ((("drop", 0), ("unit", 0), ("unit", 1)), None),
                                (("drop", 0), (0, "form")), (None, "form"), ((("drop", 9),), (0, "place")),
                                ((("lone", 5), ("drop", 0)), (0, "letter")), ((("drop", 0), ("drop", 0)), (1, "idle"))):
            check_call(self, steps_error, returned(expected), sentence=TOLD, value=value)
        check_call(self, done_steps, returned(TOLD), sentence=TOLD, steps=())
        check_call(self, done_steps, returned(("sees", ((3, 4), (4,)))), sentence=TOLD, steps=(("drop", 0), ("unit", 0)))


class LessenedTest(unittest.TestCase):
    def check(self, sentence):
        found, steps = lessened(sentence)
        self.assertEqual((found, steps), plain_lessened(sentence))
        self.assertIsNone(steps_error(sentence, steps))
        self.assertEqual(done_steps(sentence, steps), found)
        self.assertIsNone(sentence_error(found))
        return steps

    def test_small_sentences(self):
        seen = {}
        for _, sentence in small_sentences(337, 400):
            steps = self.check(sentence)
            self.assertEqual(lessening_steps(lessened(sentence)[0]), [])
            self.assertEqual(winner(lessened(sentence)[0], ()), winner(sentence, ()))
            seen.update({step[0]: True for step in steps})
            seen[len(steps)] = True
        self.assertLessEqual(set(WORDS) | {0, 1, 2, 3, 4, 5, 6}, set(seen))

    def test_all_owners(self):
        dice = random.Random(347)
        for letters in range(5):
            for owners in all_owners(letters):
                for many in (4, 8, 12):
                    self.check((owners, rich_sentence(dice, letters, many, 4)[1]))

    def test_great_sentences(self):
        most = none = 0
        for sentence in great_sentences(349):
            steps = self.check(sentence)
            most = max(most, len(steps))
            none += steps == ()
        self.assertGreater(most, 150)

    def test_nothing_to_do(self):
        for sentence in (("", ()), ("es" * 30, ()), ("", ((),)), ("es", ((1, 2), (-1, -2))),
                         ("sss", ((1, 2), (-1, -2), (2, 3), (-2, -3), (1, 3), (-1, -3)))):
            check_call(self, lessened, returned((sentence, ())), sentence=sentence)

    def test_calls(self):
        check_call(self, lessened, returned((("ses", ((),)), (("drop", 0), ("unit", 0), ("unit", 0), ("drop", 0)))),
                   sentence=KNOT)
        check_call(self, lessened, returned((("sees", ()), (("drop", 0), ("unit", 0), ("unit", 1)))), sentence=TOLD)
        check_call(self, lessened, returned((("sss", ((1, 2), (-1, -2))), (("covered", 0, 1), ("lone", -3)))),
                   sentence=("sss", ((1, 2, 3), (1, 2), (-1, -2), (-1, -3))))


if __name__ == "__main__":
    unittest.main()
