"""How fields, places and numbers that are handed in are looked at, and refused."""

from halvedpictures.errors import NoField, NoNumber, NoPlace, TooGreat, Unlike
from halvedpictures.fields import Field
from halvedpictures.kinds import is_place_within, is_whole

MOST_VALUE = 10 ** 5
MOST_HALVED = 10 ** 9


def size_of(thing):
    """Tell the height and the width of a plan or a field."""
    return (thing.height(), thing.width())


def check_field(thing):
    """Refuse what is no field."""
    if not isinstance(thing, Field):
        raise NoField(thing)


def check_size(plan, thing):
    """Refuse what is no field of the size of a plan, or of another field."""
    check_field(thing)
    if size_of(plan) != size_of(thing):
        raise Unlike(size_of(plan), size_of(thing))


def check_bounds(field, low, high):
    """Refuse a field with a number that is not from low to high."""
    for place in field.places():
        if not is_whole(field.at(place), low, high):
            raise TooGreat(place)


def check_picture(plan, thing):
    """Refuse what is no picture of the plan's size."""
    check_size(plan, thing)
    check_bounds(thing, -MOST_VALUE, MOST_VALUE)


def check_numbers(plan, thing):
    """Refuse what is no field of numbers of the plan's size."""
    check_size(plan, thing)
    check_bounds(thing, -MOST_HALVED, MOST_HALVED)


def check_place(plan, step, thing):
    """Refuse what is no step's number, and then what is no place of the corner ahead of this step."""
    height, width = plan.corner(step)
    if not is_place_within(thing, height, width):
        raise NoPlace(thing)


def check_number(thing, most):
    """Refuse what is no whole number from 0 to most."""
    if not is_whole(thing, 0, most):
        raise NoNumber(thing)
