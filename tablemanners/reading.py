"""Texts read by a manner, as a whole or row by row."""

from tablemanners.answers import Broken, Table
from tablemanners.checks import check_manner, check_text, check_wide
from tablemanners.manners import ROW_END
from tablemanners.rows import row_at, rows_of


def read(text, manner):
    """The table that the text is by the manner, or where it breaks."""
    check_text(text)
    check_manner(manner)
    rows, place = rows_of(text, manner)
    if place is not None:
        return Broken(place)
    return Table(rows)


def survey(text, manner, wide):
    """What each row of the text is, looked through for so many cells: good, uneven or broken."""
    check_text(text)
    check_manner(manner)
    check_wide(wide)
    told = []
    begin = 0
    while begin < len(text):
        cells, place = row_at(text, begin, manner)
        told.append(row_told(begin, cells, place, wide))
        begin = next_begin(text, place)
    return told


def row_told(begin, cells, place, wide):
    """What is told of one row."""
    if cells is None:
        return "broken", begin, place
    if len(cells) == wide:
        return "good", begin, place
    return "uneven", begin, len(cells)


def next_begin(text, place):
    """Where the row behind begins; the length of the text where there is none."""
    # A row that reads has its row's end at the place, so this holds for it as well as for a broken one.
    end = text.find(ROW_END, place)
    return len(text) if end < 0 else end + 1
