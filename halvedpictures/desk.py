"""A desk that is told lines, and answers each with a text."""

from halvedpictures.desklines import read_line
from halvedpictures.fields import Field
from halvedpictures.fieldtexts import field_text, read_field, row_text
from halvedpictures.halving import coarse, put_back
from halvedpictures.hanging import hangs, needs, share
from halvedpictures.leaving import left_out
from halvedpictures.noughts import compared, noughts
from halvedpictures.pictures import Picture
from halvedpictures.plans import Plan
from halvedpictures.readings import read_signs
from halvedpictures.rooms import kept, within
from halvedpictures.signs import signs
from halvedpictures.worst import greatest, worst


def list_text(rows):
    """Tell a list of rows as a text, and the list without things as a lone sign."""
    return "; ".join([row_text(row) for row in rows]) if rows else "-"


def changes_text(changes):
    """Tell changes as a text."""
    return list_text([(y, x, before, behind) for (y, x), before, behind in changes])


def empty_picture(plan):
    """Tell a Picture of a plan whose values are all 0."""
    return Picture(plan, Field([[0] * plan.width() for line in range(plan.height())]))


def with_plan(picture, things):
    """Tell the Picture that the desk has behind a line plan."""
    height, width, word, way = things
    return empty_picture(Plan(height, width, word, way))


def with_field(picture, things):
    """Tell the Picture that the desk has behind a line field."""
    return Picture(picture.plan(), read_field(things[0]))


def with_taken(picture, things):
    """Tell the Picture that the desk has behind a line take."""
    reading = read_signs(things[0])
    return Picture(reading.plan(), put_back(reading.plan(), reading.numbers()))


def answer_put(picture, things):
    """Put a value, and answer with the changes."""
    y, x, value = things
    return changes_text(picture.put((y, x), value))


def answer_add(picture, things):
    """Add a field, and answer with the changes."""
    return changes_text(picture.add(read_field(things[0])))


def answer_undo(picture, things):
    """Undo the last deed, and answer with the changes."""
    return changes_text(picture.undo())


def answer_picture(picture, things):
    """Answer with the picture."""
    return field_text(picture.field())


def answer_numbers(picture, things):
    """Answer with the picture's numbers."""
    return field_text(picture.numbers())


def answer_deeds(picture, things):
    """Answer with how many deeds stand."""
    return str(picture.deeds())


def answer_coarse(picture, things):
    """Answer with the coarse field at a step."""
    return field_text(coarse(picture.plan(), picture.numbers(), things[0]))


def answer_hangs(picture, things):
    """Answer with the places on which a number hangs."""
    return list_text(hangs(picture.plan(), tuple(things)))


def answer_needs(picture, things):
    """Answer with the places on which a value hangs."""
    return list_text(needs(picture.plan(), tuple(things)))


def answer_share(picture, things):
    """Answer with the places for which a coarse number stands, each with its copies."""
    step, y, x = things
    shares = share(picture.plan(), step, (y, x))
    return list_text([(down, along, copies) for (down, along), copies in shares])


def answer_left(picture, things):
    """Answer with what is put back without the small numbers, and how far away it may be."""
    plan, bound = picture.plan(), things[0]
    return f"{field_text(put_back(plan, left_out(plan, picture.numbers(), bound)))} | {greatest(plan, bound)}"


def answer_keep(picture, things):
    """Answer with the places of so many numbers that are kept."""
    return list_text(kept(picture.plan(), picture.numbers(), things[0]))


def answer_within(picture, things):
    """Answer with the places of the fewest numbers that lose no more than this."""
    return list_text(within(picture.plan(), picture.numbers(), things[0]))


def answer_noughts(picture, things):
    """Answer with how many fine numbers are 0."""
    return str(noughts(picture.plan(), picture.field()))


def answer_compare(picture, things):
    """Answer with how many fine numbers are 0 by each rule, along a way."""
    return list_text(compared(picture.field(), things[0]))


def answer_signs(picture, things):
    """Answer with the row of signs of the numbers."""
    return signs(picture.plan(), picture.numbers())


def answer_read(picture, things):
    """Answer with what is put back from a row of signs, and how far away it may be."""
    reading = read_signs(things[0])
    field = put_back(reading.plan(), reading.numbers())
    return f"{field_text(field)} | {max(worst(reading.plan(), reading.unread()).flat())}"


MAKERS = {"plan": with_plan, "field": with_field, "take": with_taken}
ANSWERS = {
    "put": answer_put, "add": answer_add, "undo": answer_undo, "picture": answer_picture, "numbers": answer_numbers,
    "deeds": answer_deeds, "coarse": answer_coarse, "hangs": answer_hangs, "needs": answer_needs,
    "share": answer_share, "left": answer_left, "keep": answer_keep, "within": answer_within,
    "noughts": answer_noughts, "compare": answer_compare, "signs": answer_signs, "read": answer_read,
}


class Desk:
    """A changing object that has a Picture and is told lines."""

    def __init__(self):
        self.shown = empty_picture(Plan(1, 1, "sum", ""))

    def say(self, line):
        """Do what a line says, and tell the answer."""
        word, *things = read_line(line)
        if word in MAKERS:
            make = MAKERS[word]
            self.shown = make(self.shown, things)
            return "ok"
        answer = ANSWERS[word]
        return answer(self.shown, things)
