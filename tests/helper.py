"""What several tests need: wrong things of every kind, and a look at refusals."""

from halvedpictures import errors
from halvedpictures.errors import HalvedError
from halvedpictures.fields import Field
from halvedpictures.lifted import Guessed, Leaning
from halvedpictures.plans import Plan
from halvedpictures.rules import Halves, Sums


def wrong_things():
    """New things of every kind that may be handed in where another one is due."""
    return [
        True, False, None,
        0, 1, -1, 7, 65, 10 ** 15, -(10 ** 15), 10 ** 29, -(10 ** 30 - 1),
        "", " ", "0", "1 2", "-", "sum", "Sum", "r", "x", "rpb", "ab\ncd", "~" * 300,
        [], [0], [True], ["1"], [None], [[]], [[1], [2, 3]], [[1, 2], [3, 4]], [[[1]]], [(1, 2)],
        [1] * 65, [[1]] * 65, [[1] * 65], [10 ** 15], [[10 ** 15]], [[True, 2]], ["r", "p"],
        (), (0,), (0, 0), (0, 0, 0), (True, 0), (0, False), (-1, 0), (0, -1), (64, 0), (0, 64), ("0", "0"),
        (None, None), ([1, 2], [3]), ((0, 0), 0), [0, 0],
        {}, {"a": 1}, {0: [1, 2], 1: [3, 4]}, {(0, 0): None}, {"rows": {"rows": [()]}},
        Field([[1]]), Field([[1, 2], [3, 4]]), [Field([[1]])], errors.NoField(None), HalvedError("no"),
        Sums(), Halves(), Guessed(), Leaning(), [Sums()], Plan(2, 2, "sum", "b"), (Plan(1, 1, "lean", ""), 0),
    ]


def shown(thing):
    """A text that tells all that a thing holds, objects of the package too."""
    if isinstance(thing, (list, tuple)):
        return thing.__class__.__name__ + "(" + ", ".join(shown(one) for one in thing) + ")"
    if isinstance(thing, dict):
        return "dict(" + ", ".join(shown(key) + ": " + shown(one) for key, one in thing.items()) + ")"
    if thing.__class__.__module__.startswith("halvedpictures"):
        return thing.__class__.__name__ + shown(vars(thing))
    return repr(thing)


def assert_refused(case, refusal, fields, deed, *things):
    """The deed refuses the things: by just this class, with just these fields, and nothing is changed.

    A field that is a tuple made by the program is compared; all others have to be the very things.
    """
    before = shown(things)
    with case.assertRaises(HalvedError) as caught:
        deed(*things)
    error = caught.exception
    case.assertIs(error.__class__, refusal)
    case.assertEqual(shown(things), before)
    case.assertEqual(list(vars(error)), list(fields))
    for name, thing in fields.items():
        if any(thing is one for one in things):
            case.assertIs(getattr(error, name), thing)
        else:
            case.assertEqual(shown(getattr(error, name)), shown(thing))
    return error


def is_plain_whole(thing):
    """Whether a thing is a whole number, said in other words than the package says it."""
    return thing.__class__ is int


def some_way(chance, height, width):
    """A way that some chance makes for a size, of as many steps as it likes."""
    way = ""
    while chance.randrange(6) > 0:
        letters = ("r" if width > 1 else "") + ("p" if height > 1 else "") + ("b" if min(height, width) > 1 else "")
        if letters == "":
            break
        letter = chance.choice(letters)
        way += letter
        if letter in "rb":
            width = (width + 1) // 2
        if letter in "pb":
            height = (height + 1) // 2
    return way


def some_rows(chance, height, width, most):
    """Rows of numbers from -most to most."""
    return [[chance.randint(-most, most) for x in range(width)] for y in range(height)]
