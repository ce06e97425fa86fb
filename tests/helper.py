"""What several tests need: wrong things of every kind, and a look at refusals."""

from halvedpictures import errors
from halvedpictures.desk import Desk
from halvedpictures.errors import HalvedError
from halvedpictures.fields import Field
from halvedpictures.lifted import Guessed, Leaning, words
from halvedpictures.pictures import Picture
from halvedpictures.plans import Plan
from halvedpictures.readings import read_signs
from halvedpictures.rules import Halves, Sums


def wrong_things():
    """New things of every kind that may be handed in where another one is due."""
    return [
        True, False, None,
        0, 1, -1, 7, 65, 10 ** 15, -(10 ** 15), 10 ** 29, -(10 ** 30 - 1),
        "", " ", "0", "1 2", "-", "sum", "Sum", "r", "x", "rpb", "ab\ncd", "~" * 300,
        [], [0], [True], ["1"], [None], [[]], [[1], [2, 3]], [[1, 2], [3, 4]], [[[1]]], [(1, 2)],
        [1] * 65, [[1]] * 65, [[1] * 65], [10 ** 15], [[10 ** 15]], [[True, 2]], ["r", "p"],
        (), (0,), (0, 0), (0, 0, 0), (True, 0), (0, False), (-1, 0), (0, -1), (64, 0), (0, 64), ("0", "0"),
        (None, None), ([1, 2], [3]), ((0, 0), 0), [0, 0],
        {}, {"a": 1}, {0: [1, 2], 1: [3, 4]}, {(0, 0): None}, {"rows": {"rows": [()]}},
        Field([[1]]), Field([[1, 2], [3, 4]]), [Field([[1]])], errors.NoField(None), HalvedError("no"),
        Sums(), Halves(), Guessed(), Leaning(), [Sums()], Plan(2, 2, "sum", "b"), (Plan(1, 1, "lean", ""), 0),
        Picture(Plan(1, 2, "half", "r"), Field([[3, 4]])), read_signs("halved 1 2 lean r 0 02:"), Desk(), [Desk()],
    ]


def shown(thing):
    """A text that tells all that a thing holds, objects of the package too."""
    if isinstance(thing, (list, tuple)):
        return thing.__class__.__name__ + "(" + ", ".join(shown(one) for one in thing) + ")"
    if isinstance(thing, dict):
        return "dict(" + ", ".join(shown(key) + ": " + shown(one) for key, one in thing.items()) + ")"
    if thing.__class__.__module__.startswith("halvedpictures"):
        return thing.__class__.__name__ + shown(vars(thing))
    return repr(thing)


def assert_refused(case, refusal, fields, deed, *things):
    """The deed refuses the things: by just this class, with just these fields, and nothing is changed.

    A field that is a tuple made by the program is compared; all others have to be the very things.
    """
    before = shown(things)
    with case.assertRaises(HalvedError) as caught:
        deed(*things)
    error = caught.exception
    case.assertIs(error.__class__, refusal)
    case.assertEqual(shown(things), before)
    case.assertEqual(list(vars(error)), list(fields))
    for name, thing in fields.items():
        if any(thing is one for one in things):
            case.assertIs(getattr(error, name), thing)
        else:
            case.assertEqual(shown(getattr(error, name)), shown(thing))
    return error


def is_plain_whole(thing):
    """Whether a thing is a whole number, said in other words than the package says it."""
    return thing.__class__ is int


def some_way(chance, height, width):
    """A way that some chance makes for a size, of as many steps as it likes."""
    way = ""
    while chance.randrange(6) > 0:
        letters = ("r" if width > 1 else "") + ("p" if height > 1 else "") + ("b" if min(height, width) > 1 else "")
        if letters == "":
            break
        letter = chance.choice(letters)
        way += letter
        if letter in "rb":
            width = (width + 1) // 2
        if letter in "pb":
            height = (height + 1) // 2
    return way


def some_rows(chance, height, width, most):
    """Rows of numbers from -most to most."""
    return [[chance.randint(-most, most) for x in range(width)] for y in range(height)]


# Sizes and ways: sides even and odd, 1 and 64, products of 512, and as many halvings as there can be.
SIZES_AND_WAYS = [
    (1, 1, ""), (3, 4, ""), (1, 2, "r"), (2, 1, "p"), (2, 2, "b"), (2, 3, "rp"), (3, 2, "pr"), (3, 3, "bb"),
    (5, 7, "rpb"), (5, 7, "prb"), (7, 5, "bbb"), (4, 4, "brp"), (4, 4, "rrpp"), (1, 64, "rrrrrr"),
    (64, 1, "pppppp"), (64, 8, "bbbppp"), (8, 64, "rbprrbr"), (22, 23, "bbbbb"), (17, 30, "rrrrrppppp"),
    (33, 15, "ppbbbb"), (9, 56, "brrbbr"),
]


def told_plans():
    """A plan of each rule for each of the sizes and ways."""
    return [Plan(height, width, word, way) for height, width, way in SIZES_AND_WAYS for word in words()]


def some_plans(chance, times, most):
    """Plans that some chance makes, of sides up to most."""
    for time in range(times):
        height = chance.randint(1, most)
        width = chance.randint(1, min(most, 512 // height))
        yield Plan(height, width, chance.choice(words()), some_way(chance, height, width))


def is_place_of(thing, height, width):
    """Whether a thing is a place of a size, said in other words than the package says it."""
    return thing.__class__ is tuple and len(thing) == 2 and all(is_plain_whole(one) for one in thing) and (
        thing in [(y, x) for y in range(height) for x in range(width)])


class Hung:
    """A number of which is known only on which places it hangs, whatever is reckoned with it."""

    def __init__(self, *places):
        self.places = frozenset(places)

    def with_all_of(self, other):
        return Hung(*(self.places | (other.places if isinstance(other, Hung) else frozenset())))

    __add__ = __radd__ = __sub__ = __rsub__ = __mul__ = __rmul__ = __floordiv__ = with_all_of


def at_or(numbers, at, instead):
    """The number at a place, or the one that stands instead where it is lacking."""
    return numbers[at] if 0 <= at < len(numbers) else instead


def halves_as_written(word, row):
    """The sums and the differences of a row, in the words of the points 21 to 24."""
    a, b = row[0::2], row[1::2]
    pairs = range(len(b))
    if word == "guess":
        d = [b[i] - (a[i] + at_or(a, i + 1, a[i])) // 2 for i in pairs]
        s = [a[i] + (at_or(d, i - 1, d[min(i, len(d) - 1)]) + at_or(d, i, d[i - 1]) + 2) // 4 for i in range(len(a))]
        return s, d
    s = [a[i] + b[i] if word == "sum" else (a[i] + b[i]) // 2 for i in pairs]
    s += [2 * one if word == "sum" else one for one in a[len(b):]]
    d = [a[i] - b[i] for i in pairs]
    if word == "lean":
        d = [d[i] - (at_or(s, i - 1, s[i]) - at_or(s, i + 1, s[i]) + 2) // 4 for i in pairs]
    return s, d


def back_as_written(word, s, d):
    """The row of sums and differences, in the words of the points 21 to 24."""
    pairs = range(len(d))
    if word == "guess":
        a = [s[i] - (at_or(d, i - 1, d[min(i, len(d) - 1)]) + at_or(d, i, d[i - 1]) + 2) // 4 for i in range(len(s))]
        b = [d[i] + (a[i] + at_or(a, i + 1, a[i])) // 2 for i in pairs]
    else:
        if word == "lean":
            d = [d[i] + (at_or(s, i - 1, s[i]) - at_or(s, i + 1, s[i]) + 2) // 4 for i in pairs]
        a = [(s[i] + d[i]) // 2 if word == "sum" else s[i] + (d[i] + 1) // 2 for i in pairs]
        b = [s[i] - a[i] if word == "sum" else a[i] - d[i] for i in pairs]
        a += [one // 2 if word == "sum" else one for one in s[len(d):]]
    row = [one for pair in zip(a, b) for one in pair]
    return row + a[len(b):]


def carried_as_written(word, s, d):
    """The errors of a row by those of its sums and differences, in the words of point 61."""
    pairs = range(len(d))
    if word == "guess":
        a = [s[i] + (at_or(d, i - 1, d[min(i, len(d) - 1)]) + at_or(d, i, d[i - 1]) + 3) // 4 for i in range(len(s))]
        b = [d[i] + (a[i] + at_or(a, i + 1, a[i]) + 1) // 2 for i in pairs]
        return [one for pair in zip(a, b) for one in pair] + a[len(b):]
    if word == "lean":
        d = [d[i] + (at_or(s, i - 1, s[i]) + at_or(s, i + 1, s[i]) + 3) // 4 for i in pairs]
    both = [(s[i] + d[i] + 1) // 2 if word == "sum" else s[i] + (d[i] + 1) // 2 for i in pairs]
    left = [(one + 1) // 2 if word == "sum" else one for one in s[len(d):]]
    return [one for one in both for time in range(2)] + left


def lines_of_step(plan, step):
    """The lines of places that a step halves, one behind the other."""
    height, width = plan.corner(step)
    lines = []
    if plan.way()[step] in "rb":
        lines += [[(y, x) for x in range(width)] for y in range(height)]
    if plan.way()[step] in "pb":
        lines += [[(y, x) for y in range(height)] for x in range(width)]
    return lines


def halved_in_place(plan, cells, steps, halves):
    """Cells, by their places, with the first steps taken line by line, in the words of point 30."""
    cells = dict(cells)
    for step in range(steps):
        for line in lines_of_step(plan, step):
            sums, differences = halves(plan.rule().word(), [cells[place] for place in line])
            cells.update(zip(line, sums + differences))
    return cells


def back_in_place(plan, cells, step, back):
    """Cells, by their places, with the steps from the last one to this one put back, in the words of point 35."""
    cells = dict(cells)
    for later in reversed(range(step, plan.steps())):
        for line in reversed(lines_of_step(plan, later)):
            middle = (len(line) + 1) // 2
            numbers = [cells[place] for place in line]
            cells.update(zip(line, back(plan.rule().word(), numbers[:middle], numbers[middle:])))
    return cells


def cells_of(rows):
    """Numbers by their places."""
    return {(y, x): number for y, row in enumerate(rows) for x, number in enumerate(row)}


def rows_of(cells, height, width):
    """The rows of a corner of cells."""
    return [[cells[y, x] for x in range(width)] for y in range(height)]


# All signs from the blank to `~`.
SIGNS = [chr(code) for code in range(32, 127)]


def check_as_written(text):
    """The check of a text [91], reckoned from its last sign on by powers of ten."""
    return f"{sum((ord(sign) - 32) * 10 ** at for at, sign in enumerate(reversed(text))) % 97:02d}"


def head_as_written(height, width, word, way, planes):
    """A head of a row of signs of any words, with the right check [92]."""
    told = f"halved {height} {width} {word} {way} {planes} "
    return told + check_as_written(told) + ":"


def row_as_written(plan, cells, planes):
    """The row of signs of numbers by their places, with so many planes, figure by figure [93]."""
    row = head_as_written(plan.height(), plan.width(), plan.rule().word(), plan.way() or "-", planes)
    signed = {}
    for at in range(planes):
        plane = ""
        for place in plan.order():
            figure = f"{abs(cells[place]):0{planes}b}"[at]
            plane += figure
            if figure == "1" and place not in signed:
                signed[place] = "-" if cells[place] < 0 else "+"
                plane += signed[place]
        row += plane + check_as_written(plane) + ";"
    return row


def read_as_written(body, order, planes):
    """What is read of the signs behind a head [94] [95]: either a place of a bad sign, or numbers, unread and whole."""
    signs, at = iter(body), -1
    figures, signed = {place: "" for place in order}, {}
    whole = planes == 0

    def due(among):
        nonlocal at
        sign = next(signs)
        at += 1
        if sign not in list(among):
            raise ArithmeticError
        return sign

    try:
        for plane in range(planes):
            start = at + 1
            for place in order:
                figure = due("01")
                if figure == "1" and place not in signed:
                    signed[place] = due("+-")
                figures[place] += figure
            check, first = check_as_written(body[start:at + 1]), at + 1
            if due("0123456789") + due("0123456789") != check:
                return first
            due(";")
        whole = True
        due("")
    except StopIteration:
        pass
    except ArithmeticError:
        return at
    numbers, unread = {}, {}
    for place in order:
        left = planes - len(figures[place])
        numbers[place] = int(signed.get(place, "+") + "0" + figures[place], 2) * 2 ** left
        unread[place] = 2 ** left - 1
    return numbers, unread, whole
