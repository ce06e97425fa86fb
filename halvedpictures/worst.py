"""How far away what is put back may be where numbers are not the right ones."""

from halvedpictures.carriers import carrier_of
from halvedpictures.checks import MOST_HALVED, check_bounds, check_number, check_size
from halvedpictures.fields import Field
from halvedpictures.halving import steps_back
from halvedpictures.plans import is_coarse

MOST_ERROR = 2 ** 30
MOST_WORST = 10 ** 15


def worst(plan, errors):
    """Tell how far away each place may be that is put back from numbers with these errors."""
    check_size(plan, errors)
    check_bounds(errors, 0, MOST_ERROR)
    carrier = carrier_of(plan.rule().word())
    return Field(steps_back(plan, lambda sums, differences: carrier.carried(sums, differences), errors.rows(), 0))


def greatest(plan, bound):
    """Tell how far away any place may be where each fine number may be away by the bound."""
    check_number(bound, MOST_HALVED)
    errors = [[0 if is_coarse(plan, (y, x)) else bound for x in range(plan.width())] for y in range(plan.height())]
    return max(worst(plan, Field(errors)).flat())


def bound_within(plan, most):
    """Tell the greatest bound by which no place may be farther away than most."""
    check_number(most, MOST_WORST)
    low, high = 0, MOST_HALVED
    while low < high:
        middle = (low + high + 1) // 2
        if greatest(plan, middle) <= most:
            low = middle
        else:
            high = middle - 1
    return low
