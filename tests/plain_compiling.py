"""What [J4] and [J5] tell of compiling, as plainly as can be."""

from tests.plain import ordered
from tests.plain_formulas import placed_nodes, plain_holds, plain_lowered, plain_parts, plain_prenex


def plain_literals(low, quantifiers):
    """The literal of each node of the lowered matrix, by its way."""
    letters = {name: place + 1 for place, (_, name) in enumerate(quantifiers)}
    nodes = [(way, node) for way, node, _ in placed_nodes(low)]
    helpers = [way for way, node in nodes if node[0] in ("and", "or")]
    found = {}
    for way, node in nodes:
        if node[0] == "letter":
            found[way] = letters[node[1]]
        elif node[0] == "not":
            found[way] = -letters[node[1][1]]
        else:
            found[way] = len(quantifiers) + 1 + helpers.index(way)
    return found


def plain_clauses(low, literals):
    """All clauses that are told, as lists of literals."""
    told = [[literals[()]]]
    for way, node, _ in placed_nodes(low):
        parts = [literals[way + (place,)] for place in range(len(plain_parts(node)))]
        if node[0] == "and":
            told.extend([[-literals[way], part] for part in parts])
        elif node[0] == "or":
            told.append([-literals[way]] + parts)
    return told


def plain_compiled(formula):
    """The sentence and the number of quantifiers, whatever their size is; the formula is one that prenex takes."""
    quantifiers, matrix = plain_prenex(formula)
    low = plain_lowered(matrix)
    literals = plain_literals(low, quantifiers)
    clauses = {}
    for told in plain_clauses(low, literals):
        if not set(told) & {-literal for literal in told}:
            clauses[ordered(set(told))] = True
    many = max([0, *literals.values()])
    owners = "".join([{"each": "e", "some": "s"}[word] for word, _ in quantifiers])
    return (owners.ljust(many, "s"), tuple(clauses)), len(quantifiers)


def setting_world(formula, settings):
    quantifiers, _ = plain_prenex(formula)
    return {name: flag for (_, name), flag in zip(quantifiers, settings)}


def plain_helper_play(formula, settings):
    quantifiers, matrix = plain_prenex(formula)
    low = plain_lowered(matrix)
    literals = plain_literals(low, quantifiers)
    world = setting_world(formula, settings)
    told = {place + 1: flag for place, flag in enumerate(settings)}
    for way, node, _ in placed_nodes(low):
        if node[0] in ("and", "or"):
            told[literals[way]] = plain_holds(node, world)
    return tuple([letter if told[letter] else -letter for letter in sorted(told)])


def matrix_holds(formula, settings):
    return plain_holds(plain_prenex(formula)[1], setting_world(formula, settings))
