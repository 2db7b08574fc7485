"""Things of all kinds for the tests, and how a refusal is looked at."""

import copy


def deep(kind, depth=30):
    """A list, tuple or dict with so many of its kind within one another."""
    thing = kind()
    for _ in range(depth - 1):
        thing = {"a": thing} if kind is dict else kind([thing])
    return thing


NO_TEXTS = [
    None, True, False, 0, 1, -1, 7, 10 ** 29, -(10 ** 29),
    [], [0], ["ann"], [[]], [None, True], deep(list),
    (), (0,), ("ann",), ((),), (1, [2, {"a": ()}]), deep(tuple),
    {}, {"ann": 1}, {0: []}, {"a": {"b": [()]}}, deep(dict),
]
TEXTS = ["", " ", "0", "1", "-1", "31", "1f", "ann", "Ann", "ann ", "a\nb", "\n", "day", "True", "None", "[]", "x" * 40000]
THINGS = NO_TEXTS + TEXTS
NO_WHOLES = [thing for thing in THINGS if not isinstance(thing, int) or isinstance(thing, bool)]
NO_LISTS = [thing for thing in THINGS if not isinstance(thing, list)]
NO_TUPLES = [thing for thing in THINGS if not isinstance(thing, tuple)]
NO_DAYS = NO_WHOLES + [-1, 1000001, 10 ** 29, -(10 ** 29)]
NO_NAMES = NO_TEXTS + [
    "", " ", "abcdefghi", "Ann", "ann ", " ann", "an n", "ann\n", "\nann", "a1", "a-b", "{", "`", "x" * 40000,
]


def own_lists(case, told):
    """Each list within what is told is one of its own, at each place."""
    seen = []
    waiting = [told]
    while waiting:
        thing = waiting.pop()
        if isinstance(thing, (list, tuple)):
            waiting.extend(thing)
        if isinstance(thing, list):
            seen.append(thing)
    case.assertEqual(len({id(one) for one in seen}), len(seen))


def refused(case, error, field, worth, call, /, *places, **names):
    """The call is refused with just this error, whose field is the very object."""
    before = copy.deepcopy((places, names))
    with case.assertRaises(error) as caught:
        call(*places, **names)
    case.assertIs(type(caught.exception), error)
    told = getattr(caught.exception, field)
    if isinstance(worth, (int, str)) and not isinstance(worth, bool):
        case.assertEqual((type(told), told), (type(worth), worth))
    else:
        case.assertIs(told, worth)
    case.assertEqual((places, names), before)
