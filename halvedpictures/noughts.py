"""Fine numbers that are 0: where they have to be, and how many there are by each rule."""

from halvedpictures.checks import MOST_VALUE, check_bounds, check_field
from halvedpictures.errors import NoNumber, NoSize
from halvedpictures.fields import Field
from halvedpictures.halving import halved, steps_forth
from halvedpictures.kinds import is_size, is_whole
from halvedpictures.lifted import words
from halvedpictures.plans import Plan, is_coarse
from halvedpictures.rules import pairs_of

MOST_RISE = 1000000


def has(marks, at):
    """Tell whether a place is there, and has the mark."""
    return 0 <= at < len(marks) and marks[at]


def paired_sums(row):
    """Tell the marks of the sums of pairs; that of what is left over never has it."""
    return [first and second for first, second in pairs_of(row)] + [False] * (len(row) & 1)


def paired_marks(row):
    """Tell the marks of the sums and of the differences by the rules sum and half."""
    return (paired_sums(row), [first and second for first, second in pairs_of(row)])


def guessed_marks(row):
    """Tell the marks of the sums and of the differences by the rule guess."""
    differences = [row[2 * at] and row[2 * at + 1] and has(row, 2 * at + 2) for at in range(len(row) // 2)]
    sums = [first and has(differences, at - 1) and has(differences, at) for at, first in enumerate(row[0::2])]
    return (sums, differences)


def leaning_marks(row):
    """Tell the marks of the sums and of the differences by the rule lean."""
    sums = paired_sums(row)
    return (sums, [has(sums, at - 1) and has(sums, at) and has(sums, at + 1) for at in range(len(row) // 2)])


MARKS = {"sum": paired_marks, "half": paired_marks, "guess": guessed_marks, "lean": leaning_marks}


def marks_of(word, row):
    """Tell the marks of the sums and of the differences of a row of marks."""
    deed = MARKS[word]
    return deed(row)


def inner(plan):
    """Tell the places of the inner numbers, in the plan's order."""
    word = plan.rule().word()
    marks = [[True] * plan.width() for line in range(plan.height())]
    rows = steps_forth(plan, lambda row: marks_of(word, row), marks)
    return [(y, x) for y, x in plan.order() if rows[y][x]]


def rising(height, width, start, along, down):
    """Tell a field of this size that rises evenly along its rows and pillars."""
    if not is_size(height, width):
        raise NoSize(height, width)
    for number in [start, along, down]:
        if not is_whole(number, -MOST_RISE, MOST_RISE):
            raise NoNumber(number)
    return Field([[start + along * x + down * y for x in range(width)] for y in range(height)])


def noughts(plan, picture):
    """Tell how many fine numbers of a picture are 0."""
    numbers = halved(plan, picture)
    return len([place for place in numbers.places() if numbers.at(place) == 0 and not is_coarse(plan, place)])


def compared(picture, way):
    """Tell of each rule how many fine numbers of a picture are 0 by it, along one way."""
    check_field(picture)
    check_bounds(picture, -MOST_VALUE, MOST_VALUE)
    return [(word, noughts(Plan(picture.height(), picture.width(), word, way), picture)) for word in words()]
