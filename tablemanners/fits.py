"""Which manners fit a text, and where two tables part."""

from tablemanners.manners import all_manners
from tablemanners.rows import rows_of


def fitting_tables(text):
    """The table that each manner reads which fits the text, by the manners in their order."""
    tables = {}
    for manner in all_manners():
        rows, place = rows_of(text, manner)
        if place is None and even(rows):
            tables[manner] = rows
    return tables


def even(rows):
    """Whether there is a row, and all have as many cells, two at least."""
    if len(rows) == 0 or len(rows[0]) < 2:
        return False
    return all([len(row) == len(rows[0]) for row in rows])


def unlike_at(one, other):
    """The first row and cell at which not both tables have the same cell, or None."""
    for row in range(max(len(one), len(other))):
        cell = unlike_cell(row_or_none(one, row), row_or_none(other, row))
        if cell is not None:
            return row, cell
    return None


def row_or_none(rows, row):
    """The cells of the row; no cells behind the last one."""
    return rows[row] if row < len(rows) else []


def unlike_cell(one, other):
    """The first cell that not both rows have, or None."""
    for cell in range(max(len(one), len(other))):
        # Slices, as one of the rows may have ended: it gives no cell there.
        if one[cell:cell + 1] != other[cell:cell + 1]:
            return cell
    return None
