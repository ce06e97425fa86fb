"""Numbers, values, areas and coarse numbers, reckoned by asking for those alone on which they hang."""

from halvedpictures.checks import check_place
from halvedpictures.errors import NoPlace, NoSize
from halvedpictures.fields import Field
from halvedpictures.halving import coarse, halved, put_back
from halvedpictures.hanging import hangs, needed, needs
from halvedpictures.kinds import is_place_within, is_whole


def answered(plan, ask, places):
    """Tell a field of the plan's size that has at these places what is answered there."""
    # Nothing that is asked for hangs on the other places, so any number may stand there.
    rows = [[0] * plan.width() for line in range(plan.height())]
    for y, x in places:
        rows[y][x] = ask((y, x))
    return Field(rows)


def number_from(plan, ask, place):
    """Tell the number at a place of the halved picture, from the picture's values."""
    return halved(plan, answered(plan, ask, hangs(plan, place))).at(place)


def place_from(plan, ask, place):
    """Tell the value at a place of the picture, from the numbers of the halved one."""
    return put_back(plan, answered(plan, ask, needs(plan, place))).at(place)


def check_area(plan, top, left, height, width):
    """Refuse what is no area of a picture of the plan's size."""
    if not is_place_within((top, left), plan.height(), plan.width()):
        raise NoPlace((top, left))
    if not is_whole(height, 1, plan.height() - top) or not is_whole(width, 1, plan.width() - left):
        raise NoSize(height, width)


def area_from(plan, ask, top, left, height, width):
    """Tell an area of the picture as a field of its own, from the numbers of the halved one."""
    check_area(plan, top, left, height, width)
    places = [(y, x) for y in range(top, top + height) for x in range(left, left + width)]
    rows = put_back(plan, answered(plan, ask, needed(plan, 0, places))).rows()
    return Field([row[left:left + width] for row in rows[top:top + height]])


def coarse_from(plan, ask, step, place):
    """Tell the number at a place of the corner ahead of a step, from the numbers of the halved picture."""
    check_place(plan, step, place)
    return coarse(plan, answered(plan, ask, needed(plan, step, [place])), step).at(place)
