"""Fields written as texts, and texts read as fields."""

from halvedpictures.errors import NoField, NoText
from halvedpictures.fields import Field

FIGURES = "0123456789"
MOST_FIGURES = 15


def row_text(row):
    """Tell the numbers of a row with one blank between any two."""
    return " ".join([str(number) for number in row])


def field_text(field):
    """Tell the text by which a field is written."""
    if not isinstance(field, Field):
        raise NoField(field)
    return "; ".join([row_text(row) for row in field.rows()])


def is_plain(word, most):
    """Tell whether a text is a number of at most so many figures, plainly written."""
    if word == "0":
        return True
    figures = word.removeprefix("-")
    if not 1 <= len(figures) <= most or figures[0] == "0":
        return False
    return all([sign in FIGURES for sign in figures])


def read_field(text):
    """Tell the field that is written by a text."""
    if not isinstance(text, str):
        raise NoText(text)
    rows = []
    for line in text.split("; "):
        words = line.split(" ")
        if not all([is_plain(word, MOST_FIGURES) for word in words]):
            raise NoText(text)
        rows.append([int(word) for word in words])
    try:
        return Field(rows)
    except NoField:
        raise NoText(text) from None
