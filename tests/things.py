"""Things that the tests hand in, and how they tell what came of it."""

import copy

GREAT = 10 ** 30 - 1    # thirty figures
HUGE = 10 ** 100 - 1    # a hundred figures


def nested(make, innermost, depth):
    thing = innermost
    for _ in range(depth):
        thing = make(thing)
    return thing


def whatever():
    """New things of each kind that point 0.3 lists."""
    return [
        None, True, False,
        0, 1, -1, 5, GREAT, -GREAT, HUGE, -HUGE,
        "", "0", "1", "silent", "sound", "served", "line\n\tfeed ~!",
        [], [0], [1], [None, True], [[], ()], ["0"],
        (), (0,), (1, 2), (0, 1, 2), (1, 1, 0, 1, 1), (None,), ((),), ((0, 1),), ([], {}), (True, False),
        {}, {0: 1}, {"silent": []}, {(1, ("a", (2, ""))): {"b": (None, [False])}},
        nested(lambda thing: [thing], 0, 49),
        nested(lambda thing: (thing,), "a", 49),
        nested(lambda thing: {"k": thing}, {}, 49),
    ]


def wrong_parts():
    """New things that are wrong in each place of each tuple of the package."""
    return [
        None, True, False, -1, -GREAT, HUGE, -HUGE, "", "0", "1", "Silent", "line\n\tfeed",
        [], [0], [0, 1], {}, {0: 1}, {"a": (0, 1)}, (None,), ((),), (True, False),
        nested(lambda thing: [thing], 0, 40), nested(lambda thing: (thing,), 0, 40),
    ]


def spoiled(good):
    """A good thing with itself, or one part of it at any depth, made wrong."""
    for wrong in wrong_parts():
        yield wrong
    if isinstance(good, tuple):
        yield list(good)
        yield dict(enumerate(good))
        yield good + (0,)
        for at, part in enumerate(good):
            for wrong in spoiled(part):
                yield good[:at] + (wrong,) + good[at + 1:]


def outcome(function, args):
    """What a call tells, or refuses, as a value that tells True from 1 and a list from a tuple."""
    try:
        return "told", repr(function(*args))
    except ValueError as error:
        return "refused", error.__class__.__name__, vars(error)


def asked_fairly(case, function, *args):
    """Ask with copies, and see that these are left as they were."""
    handed = copy.deepcopy(args)
    answer = function(*handed)
    case.assertEqual(repr(handed), repr(args))
    return answer


def refusal(case, error_class, function, *args):
    """The fields of a refusal of just this class, by which nothing that was handed in is changed."""
    handed = copy.deepcopy(args)
    with case.assertRaises(error_class) as caught:
        function(*handed)
    case.assertIs(caught.exception.__class__, error_class)
    case.assertEqual(repr(handed), repr(args))
    return vars(caught.exception)
