"""Rows of signs, read as far as they go."""

from halvedpictures.errors import BadSign, NoHead, NoRule, NoSize, NoWay
from halvedpictures.fields import Field
from halvedpictures.fieldtexts import FIGURES, MOST_FIGURES, is_plain
from halvedpictures.kinds import is_whole
from halvedpictures.planes import MOST_PLANES, check_of, head_of
from halvedpictures.plans import Plan


class Reading:
    """What was read of a row of signs; it never changes."""

    def __init__(self, plan, planes, numbers, unread, whole):
        self.halver = plan
        self.many_planes = planes
        self.numbers_read = numbers
        self.numbers_unread = unread
        self.all_read = whole

    def plan(self):
        """Tell the plan that the head tells."""
        return self.halver

    def planes(self):
        """Tell the number of planes that the head tells."""
        return self.many_planes

    def numbers(self):
        """Tell the numbers, as far as they were read."""
        return self.numbers_read

    def unread(self):
        """Tell for each number how much of it was not read at most."""
        return self.numbers_unread

    def whole(self):
        """Tell whether the row was whole."""
        return self.all_read


class Walk:
    """A walk along the signs behind a head; where the row was cut, it stays at the end."""

    def __init__(self, text, start, many):
        self.text = text
        self.here = start
        # Of each number: its sign, its powers so far with the last one as 1, and how many planes were read of it.
        self.marks = [""] * many
        self.sizes = [0] * many
        self.counts = [0] * many
        self.ends = 0

    def take(self, among):
        """Tell the next sign, which is one of some, and go on; tell no sign at the end of the row."""
        if self.here == len(self.text):
            return ""
        sign = self.text[self.here]
        if sign not in among:
            raise BadSign(self.here)
        self.here += 1
        return sign

    def read_number(self, at):
        """Read what a plane tells of a number."""
        bit = self.take("01")
        if bit == "1" and self.marks[at] == "":
            self.marks[at] = self.take("+-")
            # A power whose sign was cut off is not read.
            if self.marks[at] == "":
                return
        if bit != "":
            self.sizes[at] = 2 * self.sizes[at] + int(bit)
            self.counts[at] += 1

    def read_plane(self):
        """Read a plane and its check."""
        start = self.here
        for at in range(len(self.marks)):
            self.read_number(at)
        behind = self.here
        figures = self.take(FIGURES) + self.take(FIGURES)
        if len(figures) == 2 and figures != check_of(self.text[start:behind]):
            raise BadSign(behind)
        if self.take(";") == ";":
            self.ends += 1

    def numbers_of(self, planes):
        """Tell each number of so many planes, as far as it was read."""
        found = []
        for mark, size, count in zip(self.marks, self.sizes, self.counts):
            number = size << (planes - count)
            found.append(-number if mark == "-" else number)
        return found

    def unread_of(self, planes):
        """Tell of each number of so many planes how much of it was not read at most."""
        return [(1 << (planes - count)) - 1 for count in self.counts]


def head_plan(text, words):
    """Tell the plan that the words of a head tell."""
    height, width, word, way = words[1:5]
    try:
        return Plan(int(height), int(width), word, "" if way == "-" else way)
    except (NoSize, NoRule, NoWay):
        raise NoHead(text) from None


def read_head(text):
    """Tell the head of a row of signs, its plan and its number of planes; refuse what has no head."""
    if not isinstance(text, str) or ":" not in text:
        raise NoHead(text)
    head = text[:text.find(":") + 1]
    words = head.split(" ")
    if len(words) != 7 or not all([is_plain(words[at], MOST_FIGURES) for at in [1, 2, 5]]):
        raise NoHead(text)
    plan, planes = head_plan(text, words), int(words[5])
    # One plan and one number of planes have one head alone, so whatever else stands there is none.
    if not is_whole(planes, 0, MOST_PLANES) or head != head_of(plan, planes):
        raise NoHead(text)
    return (head, plan, planes)


def field_in_order(plan, numbers):
    """Tell the field that has these numbers in the plan's order."""
    rows = [[0] * plan.width() for line in range(plan.height())]
    for (y, x), number in zip(plan.order(), numbers):
        rows[y][x] = number
    return Field(rows)


def read_signs(text):
    """Tell what a row of signs tells, as far as it goes."""
    head, plan, planes = read_head(text)
    walk = Walk(text, len(head), plan.height() * plan.width())
    for plane in range(planes):
        walk.read_plane()
    # Nothing may stand behind the last plane.
    walk.take("")
    numbers = field_in_order(plan, walk.numbers_of(planes))
    return Reading(plan, planes, numbers, field_in_order(plan, walk.unread_of(planes)), walk.ends == planes)
