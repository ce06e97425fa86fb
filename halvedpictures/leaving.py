"""Small numbers left out, and how far two fields are apart."""

from halvedpictures.checks import MOST_HALVED, check_field, check_number, check_numbers, check_size
from halvedpictures.fields import Field
from halvedpictures.plans import is_coarse


def left_out(plan, numbers, bound):
    """Tell the numbers without the fine ones from -bound to bound."""
    check_numbers(plan, numbers)
    check_number(bound, MOST_HALVED)
    rows = numbers.rows()
    for y, x in numbers.places():
        if abs(rows[y][x]) <= bound and not is_coarse(plan, (y, x)):
            rows[y][x] = 0
    return Field(rows)


def apart(one, other):
    """Tell by how much the numbers of two fields differ at most at one place."""
    check_field(one)
    check_size(one, other)
    return max([abs(here - there) for here, there in zip(one.flat(), other.flat())])
