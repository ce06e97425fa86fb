"""Fields: whole numbers in rows and pillars."""

from halvedpictures.errors import NoField, NoNumber, NoPlace
from halvedpictures.kinds import is_number, is_place_within, is_row, is_size


def are_rows(thing):
    """Tell whether any thing is a list of rows of which a field is made."""
    if not isinstance(thing, list) or len(thing) == 0:
        return False
    if not all([is_row(row, 1) for row in thing]):
        return False
    width = len(thing[0])
    return is_size(len(thing), width) and all([len(row) == width for row in thing])


class Field:
    """Rows of whole numbers, all alike long; it never changes."""

    def __init__(self, rows):
        if not are_rows(rows):
            raise NoField(rows)
        # Tuples, so that no list of the asker's is kept and none of the field's own is told.
        self.grid = tuple([tuple(row) for row in rows])

    def height(self):
        """Tell the number of its rows."""
        return len(self.grid)

    def width(self):
        """Tell the number of its pillars."""
        return len(self.grid[0])

    def rows(self):
        """Tell its rows, from the first on."""
        return [list(row) for row in self.grid]

    def flat(self):
        """Tell its numbers by rows, as one list."""
        return [number for row in self.grid for number in row]

    def places(self):
        """Tell its places by rows."""
        return [(y, x) for y in range(self.height()) for x in range(self.width())]

    def is_place(self, thing):
        """Tell whether any thing is a place of this field."""
        return is_place_within(thing, self.height(), self.width())

    def at(self, place):
        """Tell the number at a place."""
        if not self.is_place(place):
            raise NoPlace(place)
        y, x = place
        return self.grid[y][x]

    def with_number(self, place, number):
        """Tell another field, alike but for the number at a place."""
        if not self.is_place(place):
            raise NoPlace(place)
        if not is_number(number):
            raise NoNumber(number)
        y, x = place
        rows = self.rows()
        rows[y][x] = number
        return Field(rows)

    def same(self, thing):
        """Tell whether any thing is a field with the same rows."""
        return isinstance(thing, Field) and thing.rows() == self.rows()
