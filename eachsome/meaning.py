"""Who wins a sentence, told by going through its plays."""

from eachsome.bounds import MAX_SEARCH
from eachsome.errors import TooMany
from eachsome.plays import state_of
from eachsome.sentences import owner_of


def check_size(sentence):
    """Raise TooMany if the sentence has more letters than are gone through."""
    if len(sentence[0]) > MAX_SEARCH:
        raise TooMany(MAX_SEARCH)


def unset_part(clause, play):
    """Return the literals of the clause that are not set in the play."""
    return tuple([literal for literal in clause if abs(literal) > len(play)])


def asked_from(sentence, play):
    """Return what the clauses that are not true in the play still ask of later letters: () if one is lost."""
    return [unset_part(clause, play) for clause in sentence[1] if state_of(clause, play) != "true"]


def asked_behind(asked, literal):
    """Return what is still asked behind a literal of the next letter; nothing in asked is ()."""
    # Literals ascend by letters, so one of the next letter stands first.
    return [part[1:] if part[0] == -literal else part for part in asked if part[0] != literal]


def some_wins(owners, letter, asked):
    """Tell whether SOME wins from where letter is the next one and this is asked."""
    if not asked:
        return True
    if () in asked:
        return False
    with_yes = some_wins(owners, letter + 1, asked_behind(asked, letter))
    # One literal settles it if it is good for the owner: SOME needs one that wins, EACH one that does not.
    if with_yes == (owners[letter - 1] == "s"):
        return with_yes
    return some_wins(owners, letter + 1, asked_behind(asked, -letter))


def winner(sentence, play):
    """Return "some" or "each", whoever wins the sentence from the play on."""
    check_size(sentence)
    wins = some_wins(sentence[0], len(play) + 1, asked_from(sentence, play))
    return "some" if wins else "each"


def good_moves(sentence, play):
    """Return the ascending tuple of the literals of the next letter behind which its owner wins."""
    check_size(sentence)
    letter = len(play) + 1
    party = "some" if owner_of(sentence, letter) == "s" else "each"
    return tuple([move for move in (-letter, letter) if winner(sentence, play + (move,)) == party])


def winning_ways(owners, letter, asked):
    """Return how many ways of SOME win from where letter is the next one and this is asked."""
    if () in asked:
        return 0
    if letter > len(owners):
        return 1
    with_yes = winning_ways(owners, letter + 1, asked_behind(asked, letter))
    with_no = winning_ways(owners, letter + 1, asked_behind(asked, -letter))
    return with_yes + with_no if owners[letter - 1] == "s" else with_yes * with_no


def trees(sentence):
    """Return how many ways of SOME win the sentence."""
    check_size(sentence)
    return winning_ways(sentence[0], 1, asked_from(sentence, ()))
