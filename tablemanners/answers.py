"""The answers: what is told of a text, each with a way to ask whether it is so."""

from tablemanners.fits import fitting_tables, unlike_at
from tablemanners.near import apart, fewest, has_width
from tablemanners.rows import rows_of


def is_number(told, number):
    """Whether what is told is this number."""
    # True and False are equal to 1 and 0, but no numbers.
    return not isinstance(told, bool) and told == number


def copied(told):
    """What is told, with new lists in place of its lists."""
    if isinstance(told, list):
        return [copied(part) for part in told]
    return told


class Answer:
    """What is told of a text."""


class Table(Answer):
    """The text reads by the manner as these rows."""

    def __init__(self, rows):
        self.rows = copied(rows)

    def shows(self, text, manner):
        """Whether the text reads by the manner as these rows."""
        rows, place = rows_of(text, manner)
        return place is None and rows == self.rows


class Broken(Answer):
    """The text does not read by the manner, and this is the first place where that shows."""

    def __init__(self, place):
        self.place = place

    def shows(self, text, manner):
        """Whether the text breaks at this place."""
        rows, place = rows_of(text, manner)
        return place is not None and is_number(self.place, place)


class Only(Answer):
    """The manner fits the text, and all that fit read the same table."""

    def __init__(self, manner):
        self.manner = manner

    def shows(self, text):
        """Whether the manner is one that fits, and no other one reads another table."""
        tables = fitting_tables(text)
        if self.manner not in tables:
            return False
        return all([rows == tables[self.manner] for rows in tables.values()])


class Both(Answer):
    """Two manners fit the text and read tables that part first at this row and cell."""

    def __init__(self, one, other, row, cell):
        self.one = one
        self.other = other
        self.row = row
        self.cell = cell

    def shows(self, text):
        """Whether both manners fit, and their tables part first at this row and cell."""
        tables = fitting_tables(text)
        if self.one not in tables or self.other not in tables:
            return False
        place = unlike_at(tables[self.one], tables[self.other])
        return place is not None and is_number(self.row, place[0]) and is_number(self.cell, place[1])


class Unfit(Answer):
    """No manner fits the text."""

    def shows(self, text):
        """Whether no manner fits the text."""
        return len(fitting_tables(text)) == 0


class Mended(Answer):
    """A text nearest to the one that was asked about, among those with so many cells in each row."""

    def __init__(self, text):
        self.text = text

    def shows(self, text, manner, wide):
        """Whether this text reads with so many cells in each row, and none that does is nearer to the one asked."""
        return has_width(self.text, manner, wide) and apart(text, self.text) == fewest(text, manner, wide)
