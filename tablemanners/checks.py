"""The refusals: what is handed in is looked at before anything is done with it."""

from tablemanners.errors import BadManner, BadTable, BadText, BadWide
from tablemanners.manners import all_manners

SIGNS = "abcdefghijklmnopqrstuvwxyz0123456789 ,;|:\"'\\\n"
MOST_SIGNS = 200
MOST_ROWS = 12
MOST_CELLS = 6
MOST_CELL_SIGNS = 8


def check_text(text):
    """Refuse what is no text."""
    if not is_text(text, MOST_SIGNS):
        raise BadText(f"a text has at most {MOST_SIGNS} signs, and only the told ones")


def check_manner(manner):
    """Refuse what is no manner."""
    if not is_manner(manner):
        raise BadManner("a manner is a triple of a mark, a quote and an escape")


def check_table(rows):
    """Refuse what is no table."""
    if not is_table(rows):
        raise BadTable(f"a table has at most {MOST_ROWS} rows, lists of 1 to {MOST_CELLS} cells")


def check_wide(wide):
    """Refuse what is no count of cells."""
    if not is_wide(wide):
        raise BadWide(f"a count of cells is a number from 1 to {MOST_CELLS}")


def is_text(told, most):
    """Whether this is a text of at most so many signs."""
    # The length comes first, so that a text far too long is not looked through.
    return isinstance(told, str) and len(told) <= most and all([sign in SIGNS for sign in told])


def is_manner(told):
    """Whether this is one of the manners."""
    if not isinstance(told, tuple) or len(told) != 3:
        return False
    # An object that is equal to everything is still no text.
    return all([isinstance(part, str) for part in told]) and told in all_manners()


def is_table(told):
    """Whether this is a table of few enough rows."""
    return isinstance(told, list) and len(told) <= MOST_ROWS and all([is_row(row) for row in told])


def is_row(told):
    """Whether this is a row of a table."""
    if not isinstance(told, list) or not 1 <= len(told) <= MOST_CELLS:
        return False
    return all([is_text(cell, MOST_CELL_SIGNS) for cell in told])


def is_wide(told):
    """Whether this is a count of cells."""
    # True and False would count as 1 and 0.
    return isinstance(told, int) and not isinstance(told, bool) and 1 <= told <= MOST_CELLS
