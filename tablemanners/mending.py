"""Texts mended by the fewest signs put in or taken out."""

from tablemanners.answers import Mended
from tablemanners.checks import check_manner, check_text, check_wide
from tablemanners.errors import TooMany
from tablemanners.near import fewest, nearest_text

MOST_MENDED = 16


def far(text, manner, wide):
    """The fewest signs put in or taken out so that the text reads with so many cells in each row."""
    check_mending(text, manner, wide)
    return fewest(text, manner, wide)


def mended(text, manner, wide):
    """A text with so many cells in each row to which the fewest signs lead."""
    check_mending(text, manner, wide)
    return Mended(nearest_text(text, manner, wide))


def check_mending(text, manner, wide):
    """Refuse what cannot be mended."""
    check_text(text)
    check_manner(manner)
    check_wide(wide)
    if len(text) > MOST_MENDED:
        raise TooMany(f"a text of more than {MOST_MENDED} signs is not mended")
