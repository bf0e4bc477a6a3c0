"""What the tests share: values of every kind, and protocols."""

import copy
import itertools
import random

STRENGTHS = ("none", "lazy", "forced")
ENDS = ("abort", "commit")
THANKS = ((), ("abort",), ("commit",), ("abort", "commit"))
HEADS = tuple(itertools.product(STRENGTHS, repeat=3))
MANNERS = tuple(itertools.product(STRENGTHS, STRENGTHS, STRENGTHS, THANKS, ENDS, (False, True)))

THIN = ("none", "forced", "none")
UNDONE = ("forced", "forced", "none", ("commit",), "abort", False)
DONE = ("forced", "none", "forced", ("abort",), "commit", False)
USUAL = (THIN, (UNDONE, UNDONE))


def nested(deep, wrap):
    """A value that lies so deep in others."""
    value = "core"
    for _ in range(deep):
        value = wrap(value)
    return value


def any_values():
    """Values of every kind that may be handed in, made anew at each call."""
    return [
        None, True, False, 0, 1, 2, -1, 5, 6, 7, 10 ** 400 - 1, 1 - 10 ** 400,
        "", "\n", " ", "begin", "forced", "abort", "idle", "head none forced none", "x" * 20000, "\n" * 20000,
        (), [], {}, (None,), (0, 0, 0), (1, 2, 3, 4), ((), ()), [[], []], {"begin": 0}, {None: [], (1, 2): {}},
        ("none", "forced"), ["none", "forced", "none"], ("none", "forced", "none", "none"),
        {"none": 0, "forced": 1, "lazy": 2}, (("begin",),), ["begin"], [("begin",)], ("begin", ()), ({}, []),
        nested(20, lambda value: (value,)), nested(20, lambda value: [value]), nested(20, lambda value: {"a": value}),
        (0,) * 4000, [{}] * 4000, tuple(range(4000)), {number: str(number) for number in range(4000)},
        b"".decode(), THIN, UNDONE, (THIN, UNDONE), (THIN, [UNDONE]),
    ]


def changed_parts(value, others):
    """Copies of this tuple with an item left out, added, or put in another's place, deep down, too."""
    yield list(value)
    yield value + (None,)
    yield value + value[-1:] + (0,)
    for k, item in enumerate(value):
        yield value[:k] + value[k + 1:]
        for other in others:
            yield value[:k] + (other,) + value[k + 1:]
        if isinstance(item, tuple):
            for changed in changed_parts(item, others):
                yield value[:k] + (changed,) + value[k + 1:]


def same(one, other):
    """Whether two values are alike, True being no 1, False no 0, and a list no tuple."""
    return repr(one) == repr(other)


def raised(error_class, function, *args, **more):
    """The fields of the error of just this class that the call raises; None if it raises none."""
    try:
        function(*args, **more)
    except error_class as error:
        return vars(error) if error.__class__ is error_class else None
    return None


class Unchanged:
    """Within it, what is handed in is watched; behind it, it has to be as it was."""

    def __init__(self, case, *values):
        self.case = case
        self.values = values
        self.copies = copy.deepcopy(values)

    def __enter__(self):
        return self

    def __exit__(self, *_):
        self.case.assertEqual(repr(self.values), repr(self.copies))


def some_protocols(many, seed, most=6):
    """So many protocols of unlike participants, the same ones for the same seed."""
    choice = random.Random(seed)
    protocols = []
    for _ in range(many):
        size = choice.randint(1, most)
        protocols.append((choice.choice(HEADS), tuple(choice.choice(MANNERS) for _ in range(size))))
    return protocols
