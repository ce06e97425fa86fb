"""Two pictures summed, and what their numbers then differ by from the sums of both."""

from halvedpictures.checks import MOST_VALUE, check_field, check_picture, check_size, size_of
from halvedpictures.errors import TooGreat
from halvedpictures.fields import Field
from halvedpictures.halving import halved
from halvedpictures.kinds import MOST_NUMBER, is_whole
from halvedpictures.plans import places_of


def summed(one, other, most):
    """Tell the sum of two fields of one size; refuse where a number of it is not from -most to most."""
    rows = one.rows()
    for y, x in one.places():
        rows[y][x] += other.at((y, x))
        if not is_whole(rows[y][x], -most, most):
            raise TooGreat((y, x))
    return Field(rows)


def added(one, other):
    """Tell the field whose number at each place is the sum of both numbers there."""
    check_field(one)
    check_size(one, other)
    return summed(one, other, MOST_NUMBER)


def rests(plan, one, other):
    """Tell the numbers of the sum of two pictures, less the numbers of both."""
    check_picture(plan, one)
    check_picture(plan, other)
    numbers = [halved(plan, picture).rows() for picture in [summed(one, other, MOST_VALUE), one, other]]
    return Field([[both - here - there for both, here, there in zip(whole, left, right)]
                  for whole, left, right in zip(numbers[0], numbers[1], numbers[2])])


def sum_bounds(low, high):
    """Tell the bounds of the sums and of the differences by the rule sum."""
    return ((low + low, high + high), (low - high, high - low))


def half_bounds(low, high):
    """Tell the bounds of the sums and of the differences by the rule half."""
    return ((low, high + 1), (low - high, high - low))


def guess_bounds(low, high):
    """Tell the bounds of the sums and of the differences by the rule guess."""
    less, more = low - high - 1, high - low
    return ((low + (less + less - 2) // 4, high + (more + more + 4) // 4), (less, more))


def lean_bounds(low, high):
    """Tell the bounds of the sums and of the differences by the rule lean."""
    least, most = low, high + 1
    return ((least, most), (low - high - (most - least + 4) // 4, high - low - (least - most - 2) // 4))


BOUNDS = {"sum": sum_bounds, "half": half_bounds, "guess": guess_bounds, "lean": lean_bounds}


def halved_bounds(word, bounds):
    """Tell the bounds of the sums and of the differences of numbers whose rests lie within bounds."""
    low, high = bounds
    deed = BOUNDS[word]
    return deed(low, high)


def bounds_behind(word, letter, corner):
    """Tell the bounds of the corner behind a step, and those of its parts by their words."""
    sums, differences = halved_bounds(word, corner)
    if letter == "r":
        return (sums, {"row": differences})
    if letter == "p":
        return (sums, {"pillar": differences})
    corner, pillar = halved_bounds(word, sums)
    row, both = halved_bounds(word, differences)
    return (corner, {"row": row, "pillar": pillar, "both": both})


def rest_bounds(plan):
    """Tell the least and the greatest rest of each part."""
    corner, found = (0, 0), {}
    for step, letter in enumerate(plan.way()):
        corner, parts = bounds_behind(plan.rule().word(), letter, corner)
        for word in parts:
            found[(step, word)] = parts[word]
    found[(plan.steps(), "coarse")] = corner
    # The parts tell the order; of each its step and its word stand first.
    return [part[:2] + found[part[:2]] for part in plan.parts()]


def can_be_rests(plan, thing):
    """Tell whether any thing is a field of the plan's size whose numbers lie within the bounds of rests."""
    if not isinstance(thing, Field) or size_of(plan) != size_of(thing):
        return False
    return all([low <= thing.at(place) <= high
                for part, (step, word, low, high) in zip(plan.parts(), rest_bounds(plan))
                for place in places_of(part)])
