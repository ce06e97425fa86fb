"""Pictures halved by a plan, and put back."""

from halvedpictures.checks import check_numbers, check_picture
from halvedpictures.fields import Field
from halvedpictures.plans import ALONG_PILLARS, ALONG_ROWS


def turned(rows):
    """Tell the pillars of rows, from the left, each as a row."""
    return [[row[x] for row in rows] for x in range(len(rows[0]))]


def halve_row(part, row, many):
    """Tell a row with so many numbers at its head halved, by a function of these."""
    sums, differences = part(row[:many])
    return sums + differences + row[many:]


def join_row(join, row, many):
    """Tell a row with so many halved numbers at its head put back, by a function of sums and differences."""
    middle = (many + 1) // 2
    return join(row[:middle], row[middle:many]) + row[many:]


def halve_rows(part, rows, height, width):
    """Tell rows with each row of the corner of this size halved."""
    return [halve_row(part, row, width) for row in rows[:height]] + rows[height:]


def join_rows(join, rows, height, width):
    """Tell rows with each row of the corner of this size put back."""
    return [join_row(join, row, width) for row in rows[:height]] + rows[height:]


def step_forth(plan, part, rows, step):
    """Tell the rows behind a step."""
    height, width = plan.corner(step)
    letter = plan.way()[step]
    if letter in ALONG_ROWS:
        rows = halve_rows(part, rows, height, width)
    if letter in ALONG_PILLARS:
        rows = turned(halve_rows(part, turned(rows), width, height))
    return rows


def steps_forth(plan, part, rows):
    """Tell the rows behind all steps, each row halved by the function part."""
    for step in range(plan.steps()):
        rows = step_forth(plan, part, rows, step)
    return rows


def step_back(plan, join, rows, step):
    """Tell the rows ahead of a step."""
    height, width = plan.corner(step)
    letter = plan.way()[step]
    if letter in ALONG_PILLARS:
        rows = turned(join_rows(join, turned(rows), width, height))
    if letter in ALONG_ROWS:
        rows = join_rows(join, rows, height, width)
    return rows


def steps_back(plan, join, rows, step):
    """Tell the rows ahead of a step, put back by this step and all behind it, each row by the function join."""
    for later in reversed(range(step, plan.steps())):
        rows = step_back(plan, join, rows, later)
    return rows


def halved(plan, picture):
    """Tell the field of the numbers of a picture."""
    check_picture(plan, picture)
    rule = plan.rule()
    return Field(steps_forth(plan, lambda row: rule.halves(row), picture.rows()))


def put_back(plan, numbers):
    """Tell the field that is put back from numbers."""
    return coarse(plan, numbers, 0)


def coarse(plan, numbers, step):
    """Tell the corner ahead of a step, put back from numbers."""
    check_numbers(plan, numbers)
    height, width = plan.corner(step)
    rule = plan.rule()
    rows = steps_back(plan, lambda sums, differences: rule.back(sums, differences), numbers.rows(), step)
    return Field([row[:width] for row in rows[:height]])
