"""The manner found from the text alone."""

from tablemanners.answers import Both, Only, Unfit
from tablemanners.checks import check_table, check_text
from tablemanners.fits import fitting_tables, unlike_at


def fitting(text):
    """All manners that fit the text, in their order."""
    check_text(text)
    return list(fitting_tables(text))


def manner_of(text):
    """The first manner that fits, or two that read unlike tables, or that none fits."""
    check_text(text)
    tables = fitting_tables(text)
    manners = list(tables)
    if len(manners) == 0:
        return Unfit()
    first = manners[0]
    for manner in manners[1:]:
        place = unlike_at(tables[first], tables[manner])
        if place is not None:
            return Both(first, manner, place[0], place[1])
    return Only(first)


def parted(one, other):
    """The first row and cell at which the two tables are unlike, or None."""
    check_table(one)
    check_table(other)
    return unlike_at(one, other)
