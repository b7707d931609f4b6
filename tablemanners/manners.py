"""The manners: a mark, a quote or none, and an escape or none."""

MARKS = (",", ";", "|", ":")
QUOTES = ("", "\"", "'")
ESCAPES = ("", "\\")
ROW_END = "\n"


def all_manners():
    """All manners, by their marks, then their quotes, then their escapes."""
    return [(mark, quote, escape) for mark in MARKS for quote in QUOTES for escape in ESCAPES]
