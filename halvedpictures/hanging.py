"""On which places numbers hang, on which numbers places hang, and for which places a coarse number stands."""

from halvedpictures.checks import check_place
from halvedpictures.plans import ALONG_PILLARS, ALONG_ROWS
from halvedpictures.spreads import known_back_spread, known_spread


def swapped(places):
    """Tell places with their rows as pillars and their pillars as rows."""
    return [(x, y) for y, x in places]


def in_rows(told, word, places, height, width):
    """Tell places with those of the corner of this size exchanged for the told ones of their rows."""
    inside = [(y, x) for y, x in places if y < height and x < width]
    outside = [(y, x) for y, x in places if y >= height or x >= width]
    return outside + sorted({(y, other) for y, x in inside for other in told(word, width, x)})


def in_pillars(told, word, places, height, width):
    """Tell places with those of the corner of this size exchanged for the told ones of their pillars."""
    return swapped(in_rows(told, word, swapped(places), width, height))


def hangs(plan, place):
    """Tell the places of the picture on which the number at a place hangs."""
    check_place(plan, 0, place)
    word = plan.rule().word()
    places = [place]
    for step in reversed(range(plan.steps())):
        height, width = plan.corner(step)
        if plan.way()[step] in ALONG_PILLARS:
            places = in_pillars(known_spread, word, places, height, width)
        if plan.way()[step] in ALONG_ROWS:
            places = in_rows(known_spread, word, places, height, width)
    return sorted(places)


def needs(plan, place):
    """Tell the places of the halved picture on which the value at a place hangs when it is put back."""
    check_place(plan, 0, place)
    return needed(plan, 0, [place])


def needed(plan, step, places):
    """Tell on which numbers any of these places of the corner ahead of a step hangs."""
    word = plan.rule().word()
    for later in range(step, plan.steps()):
        height, width = plan.corner(later)
        if plan.way()[later] in ALONG_ROWS:
            places = in_rows(known_back_spread, word, places, height, width)
        if plan.way()[later] in ALONG_PILLARS:
            places = in_pillars(known_back_spread, word, places, height, width)
    return sorted(places)


def counted(at, many):
    """Tell for which places of so many the sum at a place stands, each with how often it counts."""
    if 2 * at + 1 < many:
        return [(2 * at, 1), (2 * at + 1, 1)]
    return [(2 * at, 2)]


def share_ahead(plan, step, place):
    """Tell for which places of the corner ahead of a step a place of the corner behind it stands."""
    height, width = plan.corner(step)
    letter = plan.way()[step]
    y, x = place
    downs = counted(y, height) if letter in ALONG_PILLARS else [(y, 1)]
    alongs = counted(x, width) if letter in ALONG_ROWS else [(x, 1)]
    return [((down, along), many * times) for down, many in downs for along, times in alongs]


def share(plan, step, place):
    """Tell the places for which a number of the corner ahead of a step stands, each with its copies."""
    check_place(plan, step, place)
    shares = [(place, 1)]
    for earlier in reversed(range(step)):
        shares = [(ahead, times * many) for behind, many in shares
                  for ahead, times in share_ahead(plan, earlier, behind)]
    return sorted(shares)
