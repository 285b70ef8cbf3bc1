"""What [I] and [J] tell of formulas, as plainly as can be."""

import re
from itertools import product

NAME = re.compile(r"(?!(each|some|yes|no)\Z)[a-z][a-z0-9]{0,7}\Z")
MANY_ITEMS = {"letter": 2, "not": 2, "and": 2, "or": 2, "same": 3, "each": 3, "some": 3}


def plain_parts(formula):
    return {"letter": lambda: (), "not": lambda: (formula[1],), "and": lambda: formula[1], "or": lambda: formula[1],
            "same": lambda: (formula[1], formula[2]), "each": lambda: (formula[2],),
            "some": lambda: (formula[2],)}[formula[0]]()


def plain_node_fault(value, way):
    if len(way) >= 40:
        return "deep"
    if type(value) is not tuple or len(value) == 0 or type(value[0]) is not str or value[0] not in MANY_ITEMS:
        return "form"
    if len(value) != MANY_ITEMS[value[0]]:
        return "form"
    if value[0] in ("and", "or") and (type(value[1]) is not tuple or len(value[1]) == 1):
        return "form"
    if value[0] in ("letter", "each", "some") and not (type(value[1]) is str and NAME.match(value[1])):
        return "name"
    return None


def plain_formula_error(value):
    """By a list of what is still to be looked at, the next one ahead."""
    waiting, nodes = [((), value)], 0
    while waiting:
        way, node = waiting.pop(0)
        word = plain_node_fault(node, way)
        if word is not None:
            return (way, word)
        nodes += 1
        waiting = [(way + (place,), part) for place, part in enumerate(plain_parts(node))] + waiting
    return ((), "many") if nodes > 400 else None


def placed_nodes(formula, way=(), around=()):
    """All nodes in order: a way, the node, and the names of each "each" and "some" around it."""
    found = [(way, formula, around)]
    if formula[0] in ("each", "some"):
        around = around + (formula[1],)
    for place, part in enumerate(plain_parts(formula)):
        found.extend(placed_nodes(part, way + (place,), around))
    return found


def free_letters(formula):
    """Way, name, and the names around, of each free letter."""
    return [(way, node[1], around) for way, node, around in placed_nodes(formula)
            if node[0] == "letter" and node[1] not in around]


def put_at(formula, way, node):
    """The formula with the node put in at the end of the way."""
    if way == ():
        return node
    parts = list(plain_parts(formula))
    parts[way[0]] = put_at(parts[way[0]], way[1:], node)
    if formula[0] in ("and", "or"):
        return (formula[0], tuple(parts))
    return (*formula[:len(formula) - len(parts)], *parts)


def plain_free(formula):
    return tuple(sorted({name for _, name, _ in free_letters(formula)}))


def plain_called(formula, names):
    """The formula with its free letters called so; the least new name that would become bound, as a string, if any."""
    chosen = [(way, names[name], around) for way, name, around in free_letters(formula) if name in names]
    taken = sorted([name for _, name, around in chosen if name in around])
    if taken:
        return taken[0]
    for way, name, _ in chosen:
        formula = put_at(formula, way, ("letter", name))
    return formula


def plain_holds(formula, world):
    word, parts = formula[0], plain_parts(formula)
    if word == "letter":
        return world[formula[1]]
    if word in ("each", "some"):
        told = [plain_holds(parts[0], {**world, formula[1]: flag}) for flag in (True, False)]
        return told[0] and told[1] if word == "each" else told[0] or told[1]
    told = [plain_holds(part, world) for part in parts]
    return {"not": lambda: not told[0], "and": lambda: all(told), "or": lambda: any(told),
            "same": lambda: told[0] == told[1]}[word]()


def all_worlds(names):
    return [dict(zip(names, flags)) for flags in product((True, False), repeat=len(names))]


def plain_parting(one, other):
    names = sorted({*plain_free(one), *plain_free(other)})
    for world in all_worlds(names):
        if plain_holds(one, world) != plain_holds(other, world):
            return tuple(world.items())
    return None


def tokens_in(text):
    return [token for token in re.findall(r"[a-z0-9]+|[ \n]+|[^ ]|\n", text) if token.strip(" \n")]


def split_outside(tokens, sign):
    """The stretches of tokens between this sign where it stands outside of all brackets."""
    found, deep = [[]], 0
    for token in tokens:
        deep += {"(": 1, ")": -1}.get(token, 0)
        if token == sign and deep == 0:
            found.append([])
        else:
            found[-1].append(token)
    return found


def plain_reading(tokens):
    """What the tokens stand for by the grammar, names not looked at; ValueError if they are no formula by it."""
    sides = split_outside(tokens, "=")
    if len(sides) > 2:
        raise ValueError
    if len(sides) == 2:
        return ("same", *[plain_sums(side) for side in sides])
    return plain_sums(tokens)


def plain_sums(tokens):
    sums = [[plain_plain(plain) for plain in split_outside(products, "&")] for products in split_outside(tokens, "|")]
    parts = [plains[0] if len(plains) == 1 else ("and", tuple(plains)) for plains in sums]
    return parts[0] if len(parts) == 1 else ("or", tuple(parts))


def plain_plain(tokens):
    if not tokens:
        raise ValueError
    if tokens[0] == "!":
        return ("not", plain_plain(tokens[1:]))
    if tokens[0] in ("each", "some"):
        return (tokens[0], *tokens[1:2], plain_plain(tokens[2:]))
    if tokens[0] == "(" and tokens[-1] == ")":
        return plain_reading(tokens[1:-1])
    if len(tokens) > 1:
        raise ValueError
    return {"yes": ("and", ()), "no": ("or", ())}.get(tokens[0], ("letter", tokens[0]))


def most_open(tokens):
    deep = most = 0
    for token in tokens:
        deep += {"(": 1, ")": -1}.get(token, 0)
        most = max(most, deep)
        if deep < 0:
            raise ValueError
    return most


def plain_read(text):
    """The formula for which the text stands, None if it stands for none."""
    tokens = tokens_in(text)
    try:
        if most_open(tokens) > 40:
            return None
        formula = plain_reading(tokens)
    except ValueError:
        return None
    return formula if plain_formula_error(formula) is None else None


def plain_text(formula):
    """By putting brackets around each part, but where [I6] tells that there are none."""
    word = formula[0]
    if word == "letter":
        return formula[1]
    if formula in (("and", ()), ("or", ())):
        return {"and": "yes", "or": "no"}[word]
    bracketed = {"and": ("and", "or", "same"), "or": ("or", "same"), "same": ("same",)}.get(word, ("and", "or", "same"))
    texts = []
    for part in plain_parts(formula):
        needs = part[0] in bracketed and plain_parts(part) != ()
        texts.append(f"({plain_text(part)})" if needs else plain_text(part))
    if word in ("each", "some"):
        return " ".join([word, formula[1], texts[0]])
    return "!" + texts[0] if word == "not" else {"and": " & ", "or": " | ", "same": " = "}[word].join(texts)


def many_nodes(formula):
    return len(placed_nodes(formula))


def depth_of(formula):
    return max([len(way) for way, _, _ in placed_nodes(formula)]) + 1


def has_quantifier(formula):
    return any([node[0] in ("each", "some") for _, node, _ in placed_nodes(formula)])


def without_quantified_same(formula):
    """Each "same" with an "each" or "some" in it told by "or", "and" and "not"."""
    if formula[0] == "letter":
        return formula
    parts = [without_quantified_same(part) for part in plain_parts(formula)]
    if formula[0] == "same" and has_quantifier(formula):
        one, other = parts
        return ("or", (("and", (one, other)), ("and", (("not", one), ("not", other)))))
    return (formula[0], tuple(parts)) if formula[0] in ("and", "or") else (*formula[:len(formula) - len(parts)], *parts)


def with_fresh_names(formula, names, many):
    """The formula with each "each" and "some" given a fresh name, in order, and how many there are then."""
    if formula[0] == "letter":
        return ("letter", names[formula[1]]), many
    if formula[0] in ("each", "some"):
        fresh = f"v{many + 1}"
        part, many = with_fresh_names(formula[2], {**names, formula[1]: fresh}, many + 1)
        return (formula[0], fresh, part), many
    parts = []
    for part in plain_parts(formula):
        fresh, many = with_fresh_names(part, names, many)
        parts.append(fresh)
    made = (formula[0], tuple(parts)) if formula[0] in ("and", "or") else (formula[0], *parts)
    return made, many


def plain_prenex(formula):
    """First without a "same" to be doubled, then with fresh names, then with the quantifiers taken out."""
    named, _ = with_fresh_names(without_quantified_same(formula), {}, 0)
    quantifiers = []
    for way, node, _ in placed_nodes(named):
        if node[0] in ("each", "some"):
            turned = len([at for at in range(len(way)) if node_at(named, way[:at])[0] == "not"]) % 2
            quantifiers.append(({"each": "some", "some": "each"}[node[0]] if turned else node[0], node[1]))
    return tuple(quantifiers), without_quantifiers(named)


def node_at(formula, way):
    for place in way:
        formula = plain_parts(formula)[place]
    return formula


def without_quantifiers(formula):
    if formula[0] == "letter":
        return formula
    parts = [without_quantifiers(part) for part in plain_parts(formula)]
    if formula[0] in ("each", "some"):
        return parts[0]
    return (formula[0], tuple(parts)) if formula[0] in ("and", "or") else (formula[0], *parts)


def turned(formula):
    """What "not" ahead of the formula becomes."""
    return ("not", formula)


def plain_lowered(formula):
    """By going inward with each "not"."""
    word = formula[0]
    if word == "letter":
        return formula
    if word in ("and", "or"):
        return (word, tuple([plain_lowered(part) for part in formula[1]]))
    if word == "same":
        one, other = formula[1:]
        return plain_lowered(("and", (("or", (turned(one), other)), ("or", (one, turned(other))))))
    inner = formula[1]
    if inner[0] == "letter":
        return formula
    if inner[0] == "not":
        return plain_lowered(inner[1])
    if inner[0] == "same":
        one, other = inner[1:]
        return plain_lowered(("and", (("or", (one, other)), ("or", (turned(one), turned(other))))))
    word = {"and": "or", "or": "and"}[inner[0]]
    return plain_lowered((word, tuple([turned(part) for part in inner[1]])))
