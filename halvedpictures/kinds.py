"""Which things are whole numbers, rows, halves of rows, sizes and places."""

MOST_NUMBER = 10 ** 15 - 1
MOST_SIDE = 64
MOST_PLACES = 512


def is_whole(thing, low, high):
    """Tell whether any thing is a whole number from low to high."""
    # True and False are ints for Python, but no whole numbers here.
    if isinstance(thing, bool) or not isinstance(thing, int):
        return False
    return low <= thing <= high


def is_number(thing):
    """Tell whether any thing is a whole number of at most fifteen figures."""
    return is_whole(thing, -MOST_NUMBER, MOST_NUMBER)


def is_row(thing, least):
    """Tell whether any thing is a row of at least so many and at most 64 numbers."""
    if not isinstance(thing, list) or not least <= len(thing) <= MOST_SIDE:
        return False
    return all([is_number(number) for number in thing])


def are_halves(sums, differences):
    """Tell whether any two things are the sums and the differences of which a row is put back."""
    if not is_row(differences, 1) or not is_row(sums, len(differences)):
        return False
    # At least as many sums, and at most 64 of both: so there are never more than 32 differences.
    return len(sums) <= len(differences) + 1 and len(sums) + len(differences) <= MOST_SIDE


def is_size(height, width):
    """Tell whether any two things are the height and the width of a field."""
    if not is_whole(height, 1, MOST_SIDE) or not is_whole(width, 1, MOST_SIDE):
        return False
    return height * width <= MOST_PLACES


def is_place_within(thing, height, width):
    """Tell whether any thing is a place (y, x) of so many rows and pillars."""
    if not isinstance(thing, tuple) or len(thing) != 2:
        return False
    return is_whole(thing[0], 0, height - 1) and is_whole(thing[1], 0, width - 1)
