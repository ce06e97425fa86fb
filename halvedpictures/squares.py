"""The squares of numbers by the rule sum: what lies beneath a number, its weight, and places put back scaled."""

from halvedpictures.checks import check_numbers, check_place
from halvedpictures.errors import NoSquares
from halvedpictures.fields import Field
from halvedpictures.halving import steps_back
from halvedpictures.hanging import share
from halvedpictures.lifted import woven
from halvedpictures.plans import part_of, places_of


def all_copies(plan):
    """Tell of each place of the picture how often it counts in the share of its coarse number."""
    coarse_places = places_of(plan.parts()[0])
    return dict([counted for place in coarse_places for counted in share(plan, plan.steps(), place)])


def copies(plan, place):
    """Tell how often a place of the picture counts in the share of its coarse number."""
    check_place(plan, 0, place)
    return all_copies(plan)[place]


def beneath(plan, place):
    """Tell the places of the picture that lie beneath the number at a place."""
    check_place(plan, 0, place)
    step, word, top, left, height, width = part_of(plan, place)
    y, x = place
    # The coarse part bears the number of steps itself, all others that of the step ahead of the share.
    behind = step if word == "coarse" else step + 1
    return [covered for covered, many in share(plan, behind, (y - top, x - left))]


def later_halvings(plan, place):
    """Tell how many single halvings were done behind those that made the number at a place."""
    # The number at the first place is always a coarse one, so all halvings made it.
    return plan.halvings((0, 0)) - plan.halvings(place)


def weight_among(plan, counts, place):
    """Tell the weight of the number at a place, by the copies of all places."""
    return sum([counts[covered] for covered in beneath(plan, place)]) << (2 * later_halvings(plan, place))


def weight(plan, place):
    """Tell the weight of the number at a place."""
    return weight_among(plan, all_copies(plan), place)


def keys_of(plan, numbers):
    """Tell the square of each number times its weight, in the plan's order."""
    counts = all_copies(plan)
    return [numbers.at(place) ** 2 * weight_among(plan, counts, place) for place in plan.order()]


def check_sum(plan):
    """Refuse a plan of another rule than sum."""
    word = plan.rule().word()
    if word != "sum":
        raise NoSquares(word)


def join_scaled(sums, differences):
    """Tell a row put back without halving."""
    pairs = list(zip(sums, differences))
    firsts = [total + gap for total, gap in pairs] + sums[len(differences):]
    return woven(firsts, [total - gap for total, gap in pairs])


def scaled(plan, numbers):
    """Tell the field put back from numbers without halving."""
    check_sum(plan)
    check_numbers(plan, numbers)
    rows = numbers.rows()
    for y, x in numbers.places():
        rows[y][x] *= 1 << later_halvings(plan, (y, x))
    return Field(steps_back(plan, join_scaled, rows, 0))


def squares(plan, numbers):
    """Tell the sum of the squares of all numbers, each times its weight."""
    check_sum(plan)
    check_numbers(plan, numbers)
    return sum(keys_of(plan, numbers))
