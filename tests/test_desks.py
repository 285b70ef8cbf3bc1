import random
import unittest
from itertools import product

from eachsome.desks import Desk, desk_behind
from eachsome.errors import (
    BadLog, NothingToRedo, NothingToUndo, NoVersion, Taken, TooMany, TooManyEdits, Unfit,
)
from eachsome.meaning import winner
from eachsome.papers import paper_error
from eachsome.plays import result
from eachsome.replies import reply
from eachsome.search import find
from tests.helpers import any_values, check_call, outcome, raised, returned
from tests.making import all_plays, random_clause
from tests.plain_desks import PlainDesk, plain_desk_behind, settled_by

ODD = (None, True, False, "", "x", "E", "es", [], {}, ["e"], ("e",), b"e", 0, 1, (0,), (True,), (2, 1), (1, 1), (1, -1), (13,), [1], (1, None))


def random_edit(dice, sentence):
    """A word and an argument, right for the most part."""
    letters = len(sentence[0])
    word = dice.choice(("put", "put", "put", "put", "drop", "letter"))
    if word == "put":
        return word, random_clause(dice, letters, 3) if dice.random() < 0.9 else dice.choice(ODD + sentence[1])
    if word == "drop":
        return word, dice.randrange(max(1, len(sentence[1]))) if dice.random() < 0.9 else dice.choice(ODD + (-1, len(sentence[1])))
    return word, dice.choice("es") if dice.random() < 0.9 else dice.choice(ODD)


def filled(desk, clauses):
    for clause in clauses:
        desk.put(clause)
    return desk


class DeskTest(unittest.TestCase):
    def check_state(self, desk, plain):
        for name in ("sentence", "version", "log", "found"):
            self.assertEqual(repr(getattr(desk, name)), repr(getattr(plain, name)))
            self.assertRaises(AttributeError, setattr, desk, name, getattr(desk, name))

    def check_paper(self, desk, plain, papers):
        """The paper is right, and the same as ever on this desk."""
        paper = desk.paper()
        plain.who()
        self.assertIsNone(paper_error(desk.sentence, paper))
        self.assertEqual(papers.setdefault(desk.sentence, paper), paper)
        self.assertEqual({"no": "each", "yes": "some"}[paper[0]], winner(desk.sentence, ()))
        return paper

    def check_reply(self, desk, plain, play, papers):
        told = outcome(lambda: plain.check_reply(play))
        if told == returned(None):
            told = returned(reply(desk.sentence, self.check_paper(desk, plain, papers), play))
        self.assertEqual(outcome(lambda: desk.reply(play)), told)
        self.assertEqual(desk.found, plain.found)

    def step(self, dice, desk, plain, papers):
        """Do one thing on both desks."""
        word = dice.choice(("edit",) * 8 + ("undo", "undo", "redo", "at", "who", "who", "paper", "reply", "reply"))
        if word == "edit":
            word, given = random_edit(dice, plain.sentence)
            self.assertEqual(outcome(lambda: getattr(desk, word)(given)), outcome(lambda: getattr(plain, word)(given)))
        elif word == "at":
            version = dice.choice(ODD + tuple(range(-2, 45)))
            self.assertEqual(outcome(lambda: desk.at(version)), outcome(lambda: plain.at(version)))
        elif word == "paper":
            self.check_paper(desk, plain, papers)
        elif word == "reply":
            letters = len(plain.sentence[0])
            play = tuple([dice.choice((-k, k)) for k in range(1, dice.randint(0, letters) + 1)])
            self.check_reply(desk, plain, play if dice.random() < 0.8 else dice.choice(ODD), papers)
        else:
            self.assertEqual(outcome(lambda: getattr(desk, word)()), outcome(lambda: getattr(plain, word)()))
        self.check_state(desk, plain)

    def test_beside_a_plain_desk(self):
        dice = random.Random(991)
        most = {"found": 0, "version": 0}
        settled = 0
        for _ in range(60):
            owners = "".join(dice.choices("es", k=dice.choice((0, 1, 2, 3, 4, 5, 6, 10))))
            desks = [(Desk(owners), PlainDesk(owners), {})]
            for _ in range(dice.choice((20, 100, 400))):
                number = dice.randrange(len(desks))
                self.step(dice, *desks[number])
                if len(desks) < 4 and dice.random() < 0.05:
                    desk, plain, papers = desks[number]
                    copy = desk.copy()
                    self.assertTrue(copy == desk and not copy != desk)
                    self.assertIs(type(copy), Desk)
                    desks.append((copy, plain.copy(), dict(papers)))
            for desk, plain, papers in desks:
                self.check_state(desk, plain)
                for version in range(desk.version + 1):
                    self.assertEqual(desk.at(version), plain.at(version))
                behind = desk_behind(owners, desk.log)
                self.assertTrue(behind == desk)
                self.assertEqual((behind.log, behind.found), (desk.log, 0))
                self.assertEqual([behind.at(version) for version in range(desk.version + 1)],
                                 [desk.at(version) for version in range(desk.version + 1)])
                most = {name: max(most[name], getattr(desk, name)) for name in most}
                settled += len(papers) > desk.found
        self.assertGreater(most["found"], 5)
        self.assertEqual(most["version"], 40)
        self.assertGreater(settled, 10)

    def test_owners(self):
        for owners in ("", "e", "s", "es", "eess" * 3):
            desk = Desk(owners)
            self.assertEqual((desk.sentence, desk.version, desk.log, desk.found), ((owners, ()), 0, (), 0))
            self.assertEqual(Desk(owners=owners), desk)
        for owners in any_values() + [("e", "s"), "e" * 13, "S", "e s", b"es", 7]:
            if not (isinstance(owners, str) and set(owners) <= {"e", "s"} and len(owners) <= 12):
                for make in (lambda: Desk(owners), lambda: Desk(owners=owners), lambda: desk_behind(owners, ()), lambda: desk_behind(owners, None)):
                    self.assertEqual(outcome(make), raised(Unfit()))

    def refused(self, desk, call, error):
        """The call raises this error, and nothing changes."""
        before = [desk.at(version) for version in range(desk.version + 1)], desk.log, desk.found
        self.assertEqual(outcome(call), raised(error))
        self.assertEqual(([desk.at(version) for version in range(desk.version + 1)], desk.log, desk.found), before)

    def test_put(self):
        desk = Desk("ess")
        for number, clause in enumerate(((1, 2), (-1,), (), (-1, 2, -3), (3,), (-3,))):
            self.assertEqual(desk.put(clause=clause) if number % 2 else desk.put(clause), number + 1)
        self.assertEqual(desk.sentence, ("ess", ((1, 2), (-1,), (), (-1, 2, -3), (3,), (-3,))))
        for wrong in any_values() + [(4,), (2, 1), (1, 1), (1, -1), (0,), (True,), [1], 1, (1, None), (1.0,), (3, 4), desk, (desk,)]:
            if wrong != ():
                self.refused(desk, lambda: desk.put(wrong), Unfit())
                self.refused(desk, lambda: desk.put(clause=wrong), Unfit())
        for clause in ((1, 2), (), (-3,)):
            self.refused(desk, lambda: desk.put(clause), Taken(clause))
            self.refused(desk, lambda: desk.put(clause=clause), Taken(clause))
        self.assertEqual(desk.drop(2), 7)
        self.assertEqual(desk.put(()), 8)

    def test_drop(self):
        desk = filled(Desk("es"), ((1,), (2,), (-2,)))
        for wrong in any_values() + [3, -1, True, False, None, "0", (0,), [0], 10 ** 300, desk]:
            if not (type(wrong) is int and 0 <= wrong <= 2):
                self.refused(desk, lambda: desk.drop(wrong), Unfit())
                self.refused(desk, lambda: desk.drop(place=wrong), Unfit())
        self.assertEqual([desk.drop(1), desk.drop(place=1), desk.drop(0)], [4, 5, 6])
        self.assertEqual(desk.log[3:], (("drop", 1), ("drop", 1), ("drop", 0)))
        self.refused(desk, lambda: desk.drop(0), Unfit())

    def test_letter(self):
        desk = Desk("e" * 10)
        for wrong in any_values() + ["es", "E", "", None, ["e"], ("e",), 1, b"e", desk]:
            if wrong not in ("e", "s"):
                self.refused(desk, lambda: desk.letter(wrong), Unfit())
        self.assertEqual([desk.letter("s"), desk.letter(owner="e")], [1, 2])
        self.assertEqual(desk.sentence, ("e" * 10 + "se", ()))
        for owner in "es":
            self.refused(desk, lambda: desk.letter(owner), TooMany(12))
        self.refused(desk, lambda: desk.letter("x"), Unfit())
        desk.put((12,))
        desk.undo()
        desk.undo()
        self.assertEqual(desk.letter("e"), 2)

    def test_forty_edits(self):
        desk = Desk("es" * 5 + "e")
        clauses = [(k,) for k in range(1, 12)] + [(-k,) for k in range(1, 12)]
        for clause in clauses + [(k, k + 1) for k in range(1, 11)]:
            desk.put(clause)
        for _ in range(8):
            desk.drop(0)
        self.assertEqual(desk.version, 40)
        for call, error in ((lambda: desk.put((1,)), TooManyEdits()), (lambda: desk.put((9,)), Taken((9,))), (lambda: desk.put((12,)), Unfit()),
                            (lambda: desk.drop(0), TooManyEdits()), (lambda: desk.drop(99), Unfit()), (lambda: desk.letter("e"), TooManyEdits()),
                            (lambda: desk.letter("x"), Unfit())):
            self.refused(desk, call, error)
        self.assertEqual(desk_behind("es" * 5 + "e", desk.log), desk)
        self.assertEqual(outcome(lambda: desk_behind("es" * 5 + "e", desk.log + (("put", (1,)),))), raised(BadLog(40)))
        desk.undo()
        self.assertEqual(desk.letter("s"), 40)
        self.refused(desk, lambda: desk.letter("s"), TooMany(12))
        self.assertIn(desk.who(), ("each", "some"))
        desk.undo()
        self.assertEqual(desk.redo(), 40)

    def test_undo_redo_at(self):
        desk = Desk("es")
        self.refused(desk, desk.undo, NothingToUndo())
        self.refused(desk, desk.redo, NothingToRedo())
        filled(desk, ((1,), (2,), (-1, 2)))
        stages = [desk.at(version) for version in range(4)]
        self.assertEqual(stages, [("es", ()), ("es", ((1,),)), ("es", ((1,), (2,))), ("es", ((1,), (2,), (-1, 2)))])
        self.assertEqual([desk.undo(), desk.undo(), desk.sentence, desk.version, desk.log], [2, 1, stages[1], 1, (("put", (1,)),)])
        for version in any_values() + [2, 3, -1, True, False, None, "0", (0,), 10 ** 300]:
            if not (type(version) is int and version in (0, 1)):
                self.refused(desk, lambda: desk.at(version), NoVersion(version))
                self.refused(desk, lambda: desk.at(version=version), NoVersion(version))
        self.assertEqual([desk.at(0), desk.at(version=1)], stages[:2])
        # What is refused forgets nothing that was taken back.
        self.refused(desk, lambda: desk.put((1,)), Taken((1,)))
        self.refused(desk, lambda: desk.drop(5), Unfit())
        self.assertEqual([desk.redo(), desk.redo(), desk.sentence], [2, 3, stages[3]])
        self.refused(desk, desk.redo, NothingToRedo())
        self.assertEqual([desk.undo(), desk.undo(), desk.letter("e")], [2, 1, 2])
        self.refused(desk, desk.redo, NothingToRedo())
        self.assertEqual(desk.sentence, ("ese", ((1,),)))
        self.assertEqual([desk.undo(), desk.undo(), desk.sentence], [1, 0, stages[0]])
        self.refused(desk, desk.undo, NothingToUndo())
        self.assertEqual([desk.redo(), desk.redo(), desk.sentence], [1, 2, ("ese", ((1,),))])

    def test_equality(self):
        one, other = filled(Desk("es"), ((1,), (2,))), filled(Desk("es"), ((2,), (1,)))
        self.assertFalse(one == other)
        self.assertTrue(one != other)
        other.drop(0)
        other.put((2,))
        self.assertTrue(one == other)
        self.assertFalse(one != other)
        one.who()
        self.assertTrue(one == other and other == one)
        self.assertFalse(Desk("e") == Desk("s"))
        for value in any_values() + [one.sentence, ("es", ((1,), (2,))), PlainDesk("es"), one.log]:
            self.assertFalse(one == value)
            self.assertTrue(one != value)

    def test_what_is_settled_is_not_searched(self):
        desk = filled(Desk("es"), ((1, 2), (-1, -2)))
        self.assertEqual([desk.found, desk.who(), desk.found], [0, "some", 1])
        desk.letter("e")
        self.assertEqual([desk.who(), desk.found], ["some", 1])
        desk.drop(0)
        self.assertEqual([desk.who(), desk.found], ["some", 1])
        desk.put((2,))
        self.assertEqual([desk.who(), desk.found], ["each", 2])
        desk.put((3,))
        self.assertEqual([desk.who(), desk.found], ["each", 2])
        self.assertIsNone(paper_error(desk.sentence, desk.paper()))
        desk.drop(0)
        self.assertEqual([desk.who(), desk.found], ["each", 3])
        copy = desk.copy()
        for version in range(desk.version):
            copy.undo()
            copy.who()
        self.assertEqual(copy.found, 3)
        self.assertEqual(desk.found, 3)
        copy.put((1,))
        self.assertEqual([copy.who(), copy.found, desk.found], ["each", 4, 3])
        while desk.version:
            desk.undo()
        desk.put((1,))
        self.assertEqual([desk.who(), desk.found, copy.found], ["each", 4, 4])

    def test_clauses_in_another_order(self):
        desk = filled(Desk("se"), ((1, 2), (-1, -2), (1, -2)))
        first = desk.paper()
        self.assertEqual(first[0], "no")
        for order in ((2, 0, 1), (1, 2, 0)):
            clauses = [desk.sentence[1][place] for place in order]
            while desk.sentence[1]:
                desk.drop(0)
            filled(desk, clauses)
            paper = desk.paper()
            self.assertIsNone(paper_error(desk.sentence, paper))
            self.assertEqual(desk.found, 1)
            self.assertEqual(len(paper[1]), len(first[1]))

    def test_the_first_that_settles(self):
        """Of two sentences that settle a third one the paper of the one that was searched first is taken."""
        for first, second in (((1,), (-1,)), ((-1,), (1,)), ((2,), (-1,))):
            desk = filled(Desk("ee"), (first,))
            self.assertEqual(desk.who(), "each")
            desk.drop(0)
            desk.put(second)
            self.assertEqual([desk.who(), desk.found], ["each", 2])
            desk.put(first)
            self.assertEqual(desk.sentence[1], (second, first))
            self.assertEqual([desk.paper(), desk.found], [("no", (("clause", 1), ("drop", 0))), 2])
            desk.drop(1)
            self.assertEqual([desk.paper(), desk.found], [("no", (("clause", 0), ("drop", 0))), 2])

    def test_reply_along_all_plays(self):
        dice = random.Random(997)
        seen = {"each": 0, "some": 0}
        for _ in range(60):
            owners = "".join(dice.choices("es", k=dice.randint(1, 5)))
            desk, plain = Desk(owners), PlainDesk(owners)
            for _ in range(dice.randint(1, 7)):
                clause = random_clause(dice, len(owners), 3)
                if clause and clause not in desk.sentence[1]:
                    self.assertEqual(desk.put(clause), plain.put(clause))
            papers, who = {}, desk.who()
            plain.who()
            for play in all_plays(len(owners)):
                self.check_reply(desk, plain, play, papers)
            for others in product((True, False), repeat=len(owners) - owners.count(who[0])):
                play, left = (), list(others)
                for k, owner in enumerate(owners):
                    play += (desk.reply(play=play) if owner == who[0] else k + 1 if left.pop() else -k - 1,)
                self.assertEqual(result(desk.sentence, play), who)
            seen[who] += 1
            self.assertEqual(desk.found, 1)
        self.assertGreater(min(seen.values()), 10)

    def test_reply_unfit(self):
        desk = filled(Desk("es"), ((1, 2), (-1, -2)))
        for play in any_values() + [(1, 2), (1, -2), (2,), (True,), [1], (1, 2, 3), None, (0,), desk]:
            if repr(play) not in ("()", "(1,)", "(-1,)"):
                self.refused(desk, lambda: desk.reply(play), Unfit())
        # No paper was asked for: what is no play, or a whole one, is refused ahead of a search.
        self.assertEqual(desk.found, 0)
        self.assertEqual(outcome(lambda: desk.reply(())), raised(Unfit()))
        self.assertEqual(desk.found, 1)
        self.assertEqual([desk.reply((1,)), desk.reply((-1,)), desk.found], [-2, 2, 1])
        self.assertEqual(outcome(lambda: Desk("").reply(())), raised(Unfit()))
        twice = desk.copy()
        twice.put((2,))
        self.assertEqual(outcome(lambda: twice.reply((1,))), raised(Unfit()))
        self.assertEqual([twice.found, desk.found, twice.who()], [2, 1, "each"])

    def test_copy(self):
        desk = filled(Desk("es"), ((1,), (2,), (-2,)))
        desk.who()
        desk.undo()
        copy = desk.copy()
        self.assertEqual((copy.sentence, copy.log, copy.version, copy.found), (desk.sentence, desk.log, desk.version, desk.found))
        self.assertEqual(copy.redo(), 3)
        self.assertEqual(copy.drop(0), 4)
        self.assertEqual((desk.version, desk.redo(), copy.version), (2, 3, 4))
        desk.put((-1,))
        self.assertEqual(copy.at(4), ("es", ((2,), (-2,))))
        self.assertEqual(desk.at(4), ("es", ((1,), (2,), (-2,), (-1,))))
        self.assertNotEqual(copy, desk)
        papers = Desk("ses")
        filled(papers, ((1, 2), (-1, -2, 3), (2, -3)))
        told = papers.paper()
        self.assertEqual(papers.copy().paper(), told)

    def test_twelve_letters(self):
        dice = random.Random(1009)
        desk = Desk("esesesesese")
        desk.letter("s")
        while desk.version < 40:
            clause = random_clause(dice, 12, 3)
            if len(clause) == 3 and clause not in desk.sentence[1]:
                desk.put(clause)
        self.assertEqual(desk.who(), winner(desk.sentence, ()))
        self.assertIsNone(paper_error(desk.sentence, desk.paper()))
        self.assertEqual(desk.paper()[0], find(desk.sentence)[0])

    def test_what_settles(self):
        """Each pair of small sentences: the second one is searched just if the first one does not settle it."""
        dice = random.Random(1013)
        seen = {True: 0, False: 0}
        for _ in range(400):
            owners = "".join(dice.choices("es", k=2))
            desk = filled(Desk(owners), dict.fromkeys([random_clause(dice, 2, 2) for _ in range(dice.randint(0, 4))]))
            first, who = desk.sentence, desk.who()
            for _ in range(dice.randint(0, 3)):
                word, given = random_edit(dice, desk.sentence)
                outcome(lambda: getattr(desk, word)(given))
            settled = settled_by(first, who, desk.sentence)
            desk.who()
            self.assertEqual(desk.found, 1 if settled else 2)
            seen[settled] += 1
        self.assertGreater(min(seen.values()), 80)


class DeskBehindTest(unittest.TestCase):
    def check(self, owners, log):
        expected = outcome(lambda: plain_desk_behind(owners, log).log)
        self.assertEqual(outcome(lambda: desk_behind(owners, log).log), expected)
        self.assertEqual(outcome(lambda: desk_behind(owners=owners, log=log).log), expected)
        return expected

    def test_logs_that_are_none(self):
        for log in any_values() + [None, [], {}, "put", 7, [("put", (1,))], (("put", (1,)),)]:
            told = self.check("es", log)
            if not isinstance(log, tuple):
                self.assertEqual(told, raised(BadLog(0)))
            check_call(self, desk_behind, raised(Unfit()), owners="x", log=log)
        self.assertEqual(self.check("es", ()), returned(()))

    def test_items_that_are_none(self):
        right = ("put", (1,))
        for wrong in any_values() + [("put",), ("put", (1,), 1), ["put", (1,)], "put", ("PUT", (1,)), (None, (1,)), ("undo", 1), ("put", (4,)),
                                     ("put", [1]), ("drop", 1), ("drop", True), ("letter", "x"), ("letter", None), ("who", ()), (["put"], (1,)),
                                     ({}, 1), ("put", (1,)), (Desk("e"), (1,)), ("copy", ()), ("sentence", None)]:
            for log, place in (((wrong,), 0), ((("letter", "e"), right, wrong), 2), ((right, wrong, None), 1)):
                told = self.check("es", log)
                if wrong != right:
                    self.assertEqual(told, raised(BadLog(place)))

    def test_random_logs(self):
        dice = random.Random(1019)
        seen = {}
        for _ in range(300):
            owners = "".join(dice.choices("es", k=dice.randint(0, 3)))
            desk, log = PlainDesk(owners), []
            for _ in range(dice.randint(0, 12)):
                item = random_edit(dice, desk.sentence)
                log.append(item)
                outcome(lambda: getattr(desk, item[0])(item[1]))
            seen[self.check(owners, tuple(log))[0]] = True
        self.assertEqual(set(seen), {"returned", "raised"})

    def test_calls(self):
        log = (("put", (1,)), ("letter", "s"), ("put", (-1, 3)), ("drop", 0))
        desk = desk_behind("es", log)
        self.assertEqual((desk.sentence, desk.log, desk.version, desk.found), (("ess", ((-1, 3),)), log, 4, 0))
        self.assertEqual(outcome(desk.redo), raised(NothingToRedo()))
        self.assertEqual([desk.undo(), desk.undo(), desk.undo(), desk.undo(), desk.sentence], [3, 2, 1, 0, ("es", ())])
        check_call(self, desk_behind, raised(BadLog(1)), owners="es", log=(("put", (1,)), ("drop", 1)))
        check_call(self, desk_behind, raised(Unfit()), owners="e" * 13, log=())
        check_call(self, desk_behind, raised(BadLog(12)), owners="", log=(("letter", "e"),) * 13)
        self.assertTrue(desk_behind("es", log) == desk_behind("es", log))


if __name__ == "__main__":
    unittest.main()
