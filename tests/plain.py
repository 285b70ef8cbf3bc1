"""The document's points once more, told as plainly as can be, for tests to compare with."""

from functools import lru_cache


def whole_number(value):
    return type(value) is int


def plain_play_error(letters, value):
    if type(value) is not tuple or len(value) > letters:
        return "form"
    for place in range(len(value)):
        if not whole_number(value[place]) or value[place] not in (place + 1, -1 - place):
            return ("move", place)
    return None


def plain_state(clause, play):
    if set(clause) & set(play):
        return "true"
    return "lost" if {-literal for literal in clause} <= set(play) else "open"


def plain_result(sentence, play):
    return "some" if all(set(clause) & set(play) for clause in sentence[1]) else "each"


def plain_winner(sentence, play):
    """By going on through both literals of each further letter."""
    if len(play) == len(sentence[0]):
        return plain_result(sentence, play)
    letter = len(play) + 1
    winners = [plain_winner(sentence, play + (literal,)) for literal in (letter, -letter)]
    wanted = "some" if sentence[0][len(play)] == "s" else "each"
    return wanted if wanted in winners else ("each" if wanted == "some" else "some")


def plain_good_moves(sentence, play):
    letter = len(play) + 1
    party = "some" if sentence[0][len(play)] == "s" else "each"
    return tuple([literal for literal in (-letter, letter) if plain_winner(sentence, play + (literal,)) == party])


def plain_ways(sentence, play=()):
    """All ways of SOME from the play on, each as the tuple of the whole plays that can come by it."""
    if len(play) == len(sentence[0]):
        return [(play,)]
    letter = len(play) + 1
    with_yes, with_no = [plain_ways(sentence, play + (literal,)) for literal in (letter, -letter)]
    if sentence[0][len(play)] == "s":
        return with_yes + with_no
    return [one + other for one in with_yes for other in with_no]


def plain_trees(sentence):
    return len([way for way in plain_ways(sentence) if all(plain_result(sentence, play) == "some" for play in way)])


def summed_trees(sentence, play=()):
    """The number of ways that win, by sums and products over all whole plays."""
    if len(play) == len(sentence[0]):
        return 1 if plain_result(sentence, play) == "some" else 0
    letter = len(play) + 1
    with_yes, with_no = [summed_trees(sentence, play + (literal,)) for literal in (letter, -letter)]
    return with_yes + with_no if sentence[0][len(play)] == "s" else with_yes * with_no


@lru_cache(maxsize=None)
def holder_letters(owners, side):
    return {k + 1 for k in range(len(owners)) if owners[k] == {"no": "e", "yes": "s"}[side]}


def ordered(literals):
    return tuple(sorted(literals, key=abs))


def plain_dropped(owners, side, row):
    held = holder_letters(owners, side)
    others = {abs(literal) for literal in row} - held
    return tuple([literal for literal in row
                  if abs(literal) not in held or any(letter > abs(literal) for letter in others)])


def plain_clashes(one, other):
    both = set(one) | set(other)
    return tuple([letter for letter in range(1, 61) if letter in both and -letter in both])


def plain_met(one, other):
    letter = plain_clashes(one, other)[0]
    return ordered((set(one) | set(other)) - {letter, -letter})


def plain_row(value, letters):
    """Whether value is a row of so many letters."""
    if type(value) is not tuple or not all([whole_number(item) for item in value]):
        return False
    names = [abs(item) for item in value]
    return names == sorted(set(names)) and set(names) <= set(range(1, letters + 1))


def plain_step(value, side, letters):
    if type(value) is not tuple:
        return False
    if len(value) == 2 and value[0] == "lot":
        return side == "yes" and plain_row(value[1], letters)
    if len(value) == 2 and value[0] == "clause":
        return side == "no" and whole_number(value[1])
    if len(value) == 2:
        return value[0] == "drop" and whole_number(value[1])
    return len(value) == 3 and value[0] == "meet" and whole_number(value[1]) and whole_number(value[2])


def plain_made(sentence, side, step, rows):
    """The row that a right step makes, or the word that tells what is wrong with the step."""
    owners, clauses = sentence
    if not plain_step(step, side, len(owners)):
        return "step"
    if step[0] in ("drop", "meet") and not set(step[1:]) <= set(range(len(rows))):
        return "row"
    if step[0] == "clause":
        return clauses[step[1]] if step[1] in range(len(clauses)) else "clause"
    if step[0] == "lot":
        return step[1] if all(set(step[1]) & set(clause) for clause in clauses) else "lot"
    if step[0] == "drop":
        row = plain_dropped(owners, side, rows[step[1]])
        return "idle" if row == rows[step[1]] else row
    one, other = rows[step[1]], rows[step[2]]
    letters = plain_clashes(one, other)
    if len(letters) != 1 or letters[0] in holder_letters(owners, side):
        return "clash"
    return plain_met(one, other)


def plain_judged(sentence, value):
    """What is wrong with value as a paper, and the rows that its right steps made."""
    if type(value) is not tuple or len(value) != 2 or type(value[0]) is not str or value[0] not in ("no", "yes"):
        return "form", ()
    side, steps = value
    if type(steps) is not tuple or not 1 <= len(steps) <= 600000:
        return "form", ()
    rows = []
    for place, step in enumerate(steps):
        row = plain_made(sentence, side, step, rows)
        if type(row) is str:
            return (place, row), tuple(rows)
        rows.append(row)
    return (None if rows[-1] == () else "end"), tuple(rows)


def plain_trimmed(paper):
    side, steps = paper
    needed, fresh = set(), {len(steps) - 1}
    while fresh:
        needed |= fresh
        fresh = {number for place in fresh if steps[place][0] in ("drop", "meet") for number in steps[place][1:]}
        fresh -= needed
    places = sorted(needed)
    made = []
    for place in places:
        word, *told = steps[place]
        made.append((word, *[places.index(number) for number in told]) if word in ("drop", "meet") else steps[place])
    return (side, tuple(made))
