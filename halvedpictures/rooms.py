"""Rooms for so many numbers: which of them are kept, and what is lost by it."""

from halvedpictures.asking import answered
from halvedpictures.checks import check_number, check_numbers
from halvedpictures.errors import NoMany, NoPlaces, TooMany
from halvedpictures.halving import put_back
from halvedpictures.kinds import is_place_within, is_whole
from halvedpictures.squares import check_sum, keys_of

MOST_LOSS = 10 ** 29
MOST_TRIED = 9


def check_many(plan, many):
    """Refuse what does not tell how many of all numbers are kept."""
    if not is_whole(many, 0, plan.height() * plan.width()):
        raise NoMany(many)


def are_places(plan, thing):
    """Tell whether any thing is a list or a tuple of places of the plan's size, none twice."""
    if not isinstance(thing, (list, tuple)):
        return False
    if not all([is_place_within(one, plan.height(), plan.width()) for one in thing]):
        return False
    return len(set(thing)) == len(thing)


def check_places(plan, places):
    """Refuse what are no told places."""
    if not are_places(plan, places):
        raise NoPlaces(places)


def ranked(keys):
    """Tell at which places the keys stand, from the greatest to the least, of one key as they stand."""
    return sorted(range(len(keys)), key=lambda at: (-keys[at], at))


def places_at(plan, chosen):
    """Tell the places of chosen numbers of the plan's order, in this order."""
    order = plan.order()
    return [order[at] for at in sorted(chosen)]


def kept(plan, numbers, many):
    """Tell the places of so many numbers with the greatest keys."""
    check_numbers(plan, numbers)
    check_many(plan, many)
    return places_at(plan, ranked(keys_of(plan, numbers))[:many])


def shows_kept(plan, numbers, many, thing):
    """Tell whether any thing is a list of so many places, in the plan's order, with the greatest keys."""
    check_numbers(plan, numbers)
    check_many(plan, many)
    if not isinstance(thing, list) or len(thing) != many or not are_places(plan, thing):
        return False
    order, keys = plan.order(), keys_of(plan, numbers)
    if thing != [place for place in order if place in thing]:
        return False
    # Which ones of a key are kept is free; so the keys are compared, and not the places.
    return sorted([key for place, key in zip(order, keys) if place in thing]) == sorted(keys)[len(keys) - many:]


def with_kept(plan, numbers, places):
    """Tell the numbers with those that are not among told places as 0."""
    check_numbers(plan, numbers)
    check_places(plan, places)
    return answered(plan, lambda place: numbers.at(place), places)


def loss(plan, numbers, places):
    """Tell the squares of all numbers that are not among told places."""
    check_sum(plan)
    check_numbers(plan, numbers)
    check_places(plan, places)
    return sum([key for place, key in zip(plan.order(), keys_of(plan, numbers)) if place not in places])


def within(plan, numbers, most):
    """Tell the places of the fewest numbers whose loss is at most this."""
    check_sum(plan)
    check_numbers(plan, numbers)
    check_number(most, MOST_LOSS)
    keys = keys_of(plan, numbers)
    chosen = ranked(keys)
    left = most
    while chosen and keys[chosen[-1]] <= left:
        left -= keys[chosen.pop()]
    return places_at(plan, chosen)


def choices(total, many):
    """Tell all choices of so many of the numbers from 0 to below a total, as rising lists, the least one first."""
    found = [[]]
    for turn in range(many):
        found = [one + [more] for one in found for more in range(one[-1] + 1 if one else 0, total)]
    return found


def plain_loss(one, other):
    """Tell the sum of the squares by which two fields differ."""
    return sum([(here - there) ** 2 for here, there in zip(one.flat(), other.flat())])


def best_of_all(plan, numbers, many):
    """Tell the least plain loss of all choices of so many numbers, and the first choice that has it."""
    check_numbers(plan, numbers)
    total = plan.height() * plan.width()
    if total > MOST_TRIED:
        raise TooMany(total)
    check_many(plan, many)
    picture = put_back(plan, numbers)
    tried = []
    for chosen in choices(total, many):
        other = put_back(plan, with_kept(plan, numbers, places_at(plan, chosen)))
        tried.append((plain_loss(picture, other), chosen))
    least, best = min(tried)
    return (least, places_at(plan, best))
