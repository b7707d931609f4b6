"""Tables written by a manner, as short as they can be read."""

from tablemanners.checks import check_manner, check_table, check_text
from tablemanners.errors import Unread, Unwritable
from tablemanners.manners import ROW_END
from tablemanners.rows import rows_of


def written(rows, manner):
    """The text of the table by the manner."""
    check_table(rows)
    check_manner(manner)
    return text_of(rows, manner)


def unwritable(rows, manner):
    """The first row and cell of the table that the manner cannot write, or None."""
    check_table(rows)
    check_manner(manner)
    return unwritable_at(rows, manner)


def turned(text, manner, other):
    """The text, read by the one manner, as the other one writes it."""
    check_text(text)
    check_manner(manner)
    check_manner(other)
    rows, place = rows_of(text, manner)
    if place is not None:
        raise Unread(f"the text breaks at place {place}")
    return text_of(rows, other)


def text_of(rows, manner):
    """The text of any rows; refused where a cell cannot be written."""
    place = unwritable_at(rows, manner)
    if place is not None:
        raise Unwritable(f"the manner cannot write row {place[0]}, cell {place[1]}")
    return "".join([row_text(row, manner) for row in rows])


def unwritable_at(rows, manner):
    """The first row and cell that the manner cannot write, or None."""
    mark, quote, escape = manner
    if quote != "" or escape != "":
        return None
    for row, cells in enumerate(rows):
        for cell, text in enumerate(cells):
            if mark in text or ROW_END in text:
                return row, cell
    return None


def row_text(cells, manner):
    """The text of one row, its row's end too."""
    mark = manner[0]
    return mark.join([cell_text(cell, manner) for cell in cells]) + ROW_END


def cell_text(cell, manner):
    """The text of one cell that the manner can write."""
    mark, quote, escape = manner
    if quote == "":
        return cell if escape == "" else escaped_text(cell, mark, escape)
    if mark in cell or quote in cell or ROW_END in cell:
        return quote + quoted_text(cell, quote, escape) + quote
    return cell


def escaped_text(cell, mark, escape):
    """The cell without quotes, by its escapes."""
    # The escapes of the cell come first, as the other steps bring in new ones.
    doubled = cell.replace(escape, escape + escape)
    return doubled.replace(mark, escape + mark).replace(ROW_END, escape + "n")


def quoted_text(cell, quote, escape):
    """What stands within the quotes."""
    if escape == "":
        return cell.replace(quote, quote + quote)
    return cell.replace(escape, escape + escape).replace(quote, escape + quote)
