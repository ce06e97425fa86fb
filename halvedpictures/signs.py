"""Numbers written as a row of signs, plane by plane."""

from halvedpictures.planes import check_of, head_of, planes_of


def signs_of(number, power):
    """Tell what a plane tells of a number: whether it has this power, and with the first one its sign."""
    # What is left of the number from this power on: 1 where this is its greatest power.
    rest = abs(number) >> power
    if rest == 1:
        return "1-" if number < 0 else "1+"
    return str(rest & 1)


def plane_of(numbers, power):
    """Tell the plane of a power, with its check."""
    told = "".join([signs_of(number, power) for number in numbers])
    return told + check_of(told) + ";"


def signs(plan, numbers):
    """Tell the row of signs by which a field of numbers is written."""
    planes = planes_of(plan, numbers)
    in_order = [numbers.at(place) for place in plan.order()]
    return head_of(plan, planes) + "".join([plane_of(in_order, power) for power in reversed(range(planes))])
