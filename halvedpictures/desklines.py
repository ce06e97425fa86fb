"""The lines that are told to a desk, and how they are read."""

from halvedpictures.errors import NoLine
from halvedpictures.fieldtexts import is_plain

MOST_FIGURES = 30

# What stands behind the first word of each line.
FORMS = {
    "plan": ("number", "number", "word", "way"),
    "field": ("text",),
    "put": ("number", "number", "number"),
    "add": ("text",),
    "undo": (),
    "take": ("text",),
    "picture": (),
    "numbers": (),
    "deeds": (),
    "coarse": ("number",),
    "hangs": ("number", "number"),
    "needs": ("number", "number"),
    "share": ("number", "number", "number"),
    "left": ("number",),
    "keep": ("number",),
    "within": ("number",),
    "noughts": (),
    "compare": ("way",),
    "signs": (),
    "read": ("text",),
}


def parts_of(line):
    """Tell the first word of a line, and a list of what stands behind it."""
    word, blank, rest = line.partition(" ")
    if blank == "":
        return (word, [])
    # A text may hold blanks, and may be without signs; all else is parted by blanks.
    if FORMS.get(word) == ("text",):
        return (word, [rest])
    return (word, rest.split(" "))


def fits(kind, part):
    """Tell whether what stands in a line is of this kind."""
    if kind == "number":
        return is_plain(part, MOST_FIGURES)
    return kind == "text" or part != ""


def value_of(kind, part):
    """Tell what is told by what stands in a line."""
    if kind == "number":
        return int(part)
    return "" if kind == "way" and part == "-" else part


def read_line(line):
    """Tell the first word of a line and what stands behind it; refuse what is no line."""
    if not isinstance(line, str) or "\n" in line:
        raise NoLine(line)
    word, parts = parts_of(line)
    form = FORMS.get(word)
    if form is None or len(form) != len(parts):
        raise NoLine(line)
    if not all([fits(kind, part) for kind, part in zip(form, parts)]):
        raise NoLine(line)
    return tuple([word] + [value_of(kind, part) for kind, part in zip(form, parts)])
