"""What several tests share: any values, the errors, and calls that are looked at from all sides."""

import copy

from eachsome import errors

DEEPEST = 200
MOST_FIGURES = 400
LONGEST_TEXT = 20000
MOST_ITEMS = 8000


def nested(inner, wrap):
    for _ in range(DEEPEST):
        inner = wrap(inner)
    return inner


def any_values():
    """Values of all kinds that may be handed in as value; none of them is a sentence, a play or a paper."""
    return [
        None, True, False, 0, 1, -1, 60, 10 ** (MOST_FIGURES - 1), 1 - 10 ** MOST_FIGURES,
        "", " ", "\n", "e", "s", "es", "ex", "no", "yes", "a" * LONGEST_TEXT, "e" * LONGEST_TEXT,
        "1" * LONGEST_TEXT, "s:" + ";" * (LONGEST_TEXT - 2), "es: " + "1" * 5000 + ";",
        [], ["es", ()], [1, 2], {}, {"es": ()}, {0: "es", 1: ()}, {("es", 1): [None, {}]},
        (None,), (True,), ("",), ("es",), (0,), ((),), ([],), ({},), ("1",), ((1,),),
        (None, None), ("no", None), ("yes", ()), (True, False), ({}, {}), ([], []), ("es", None), ("es", []),
        ("es", {}), ("es", "es"), (["es"], ()), (("e", "s"), ()), ({"e": 1}, ()), (0, ()), (None, ()),
        ("es", (), ()), ("es", ((1,),), None), ((), "es"),
        ("es", (None,)), ("es", (True,)), ("es", ([],)), ("es", ({},)), ("es", ("",)), ("es", (0,)),
        nested((), lambda value: (value,)), nested([], lambda value: [value]), nested({}, lambda value: {"k": value}),
        ("es", nested((), lambda value: (value,))), ("no", nested((), lambda value: (value,))),
        (None,) * MOST_ITEMS, tuple(range(1, MOST_ITEMS)), [0] * MOST_ITEMS, ("es", (None,) * (MOST_ITEMS - 2)),
        errors.Unfit(), errors.Taken([1]), errors.BadLog(place=None), (errors.BadText(), ()),
    ]


def outcome(call):
    """What a call does: the result with its kind told exactly, or its GameError with all fields."""
    try:
        return ("returned", repr(call()))
    except errors.GameError as error:
        return ("raised", type(error), repr(vars(error)))


def check_call(test, function, expected, **arguments):
    """Call by place and by name, and again: always as expected, and what is handed in stays as it was."""
    before = copy.deepcopy(arguments)
    for _ in range(2):
        test.assertEqual(outcome(lambda: function(*arguments.values())), expected)
        test.assertEqual(outcome(lambda: function(**arguments)), expected)
    for name, value in before.items():
        test.assertEqual(repr(arguments[name])[:5000], repr(value)[:5000])


def returned(result):
    return ("returned", repr(result))


def raised(error):
    return ("raised", type(error), repr(vars(error)))
