"""Plans: a size, a rule and a way, by which fields are halved step by step."""

from halvedpictures.errors import NoPlace, NoSize, NoStep, NoWay
from halvedpictures.kinds import is_place_within, is_size, is_whole
from halvedpictures.lifted import rule_of

ALONG_ROWS = ("r", "b")
ALONG_PILLARS = ("p", "b")


def can_halve(letter, height, width):
    """Tell whether a step of this letter can be taken on a corner of this size."""
    if letter in ALONG_ROWS and width < 2:
        return False
    if letter in ALONG_PILLARS and height < 2:
        return False
    return letter in ALONG_ROWS or letter in ALONG_PILLARS


def corners_of(height, width, way):
    """Tell the corner ahead of each step, and the one behind all; refuse what is no way."""
    if not isinstance(way, str):
        raise NoWay(way)
    corners = [(height, width)]
    for letter in way:
        if not can_halve(letter, height, width):
            raise NoWay(way)
        if letter in ALONG_ROWS:
            width = (width + 1) // 2
        if letter in ALONG_PILLARS:
            height = (height + 1) // 2
        corners.append((height, width))
    return tuple(corners)


def places_of(part):
    """Tell the places of a part by rows."""
    top, left, height, width = part[2:]
    return [(y, x) for y in range(top, top + height) for x in range(left, left + width)]


def part_of(plan, place):
    """Tell the part of a plan in which a place lies."""
    return [part for part in plan.parts() if place in places_of(part)][0]


def is_coarse(plan, place):
    """Tell whether the number at a place is a coarse one."""
    height, width = plan.corner(plan.steps())
    return is_place_within(place, height, width)


class Plan:
    """A size, a rule and a way; it never changes."""

    def __init__(self, height, width, word, way):
        if not is_size(height, width):
            raise NoSize(height, width)
        self.chosen = rule_of(word)
        self.corners = corners_of(height, width, way)
        self.letters = way

    def height(self):
        """Tell the number of rows of its fields."""
        return self.corners[0][0]

    def width(self):
        """Tell the number of pillars of its fields."""
        return self.corners[0][1]

    def rule(self):
        """Tell its rule."""
        return self.chosen

    def way(self):
        """Tell its way, one letter for each step."""
        return self.letters

    def steps(self):
        """Tell the number of its steps."""
        return len(self.letters)

    def corner(self, step):
        """Tell the size of the corner ahead of a step, or behind all."""
        if not is_whole(step, 0, self.steps()):
            raise NoStep(step)
        return self.corners[step]

    def parts(self):
        """Tell the parts of a halved field, the coarse one first, then those of the last step, and so on."""
        height, width = self.corners[-1]
        parts = [(self.steps(), "coarse", 0, 0, height, width)]
        for step in reversed(range(self.steps())):
            parts.extend(self.parts_of_step(step))
        return parts

    def parts_of_step(self, step):
        """Tell the parts that come by one step."""
        height, width = self.corners[step]
        many_down, many_along = self.corners[step + 1]
        letter = self.letters[step]
        parts = []
        if letter in ALONG_ROWS:
            parts.append((step, "row", 0, many_along, many_down, width - many_along))
        if letter in ALONG_PILLARS:
            parts.append((step, "pillar", many_down, 0, height - many_down, many_along))
        if letter == "b":
            parts.append((step, "both", many_down, many_along, height - many_down, width - many_along))
        return parts

    def order(self):
        """Tell all places, part by part, in each part by rows."""
        return [place for part in self.parts() for place in places_of(part)]

    def halvings(self, place):
        """Tell how many single halvings made the number at a place."""
        if not is_place_within(place, self.height(), self.width()):
            raise NoPlace(place)
        many = 0
        for letter, (height, width) in zip(self.letters, self.corners):
            # A step makes just the numbers of its corner, and each corner lies in the one ahead of it.
            if is_place_within(place, height, width):
                many += 2 if letter == "b" else 1
        return many
