"""What the document says, said once more in other ways: by regular expressions and by trying out."""

import itertools
import re

MANNERS = [
    (",", "", ""), (",", "", "\\"), (",", '"', ""), (",", '"', "\\"), (",", "'", ""), (",", "'", "\\"),
    (";", "", ""), (";", "", "\\"), (";", '"', ""), (";", '"', "\\"), (";", "'", ""), (";", "'", "\\"),
    ("|", "", ""), ("|", "", "\\"), ("|", '"', ""), ("|", '"', "\\"), ("|", "'", ""), ("|", "'", "\\"),
    (":", "", ""), (":", "", "\\"), (":", '"', ""), (":", '"', "\\"), (":", "'", ""), (":", "'", "\\"),
]

PLAIN = (",", "", "")
ESCAPING = (",", "", "\\")
QUOTING = (",", '"', "")
BOTH = (",", '"', "\\")
KINDS = [PLAIN, ESCAPING, QUOTING, BOTH]


def cell_pattern(manner):
    mark, quote, escape = manner
    m = re.escape(mark)
    if not quote and not escape:
        return rf"[^{m}\n]*"
    if not quote:
        return rf"(?:\\[{m}\\n]|[^{m}\\\n])*"
    if not escape:
        return rf"(?:[^{m}{quote}\n]*|{quote}(?:[^{quote}]|{quote}{quote})*{quote})"
    return rf"(?:[^{m}{quote}\n]*|{quote}(?:[^{quote}\\]|\\[{quote}\\])*{quote})"


def row_pattern(manner):
    cell = cell_pattern(manner)
    return rf"{cell}(?:{re.escape(manner[0])}{cell})*\n"


def reads(text, manner):
    return re.fullmatch(rf"(?:{row_pattern(manner)})*", text) is not None


def value(raw, manner):
    mark, quote, escape = manner
    if quote and raw.startswith(quote):
        inner = raw[1:-1]
        if not escape:
            return inner.replace(quote * 2, quote)
        return re.sub(r"\\(.)", r"\1", inner)
    if escape and not quote:
        return re.sub(r"\\(.)", lambda found: "\n" if found[1] == "n" else found[1], raw)
    return raw


def rows(text, manner):
    """The rows of a text that reads."""
    found = []
    for row in re.findall(row_pattern(manner), text):
        cells = []
        rest = row
        while rest:
            raw = re.match(rf"({cell_pattern(manner)})(?=[{re.escape(manner[0])}\n])", rest)[1]
            cells.append(value(raw, manner))
            rest = rest[len(raw) + 1:]
        found.append(cells)
    return found


def goes_on(text, manner):
    """Whether a text that reads begins with this one: no more than three signs can be missing."""
    signs = [sign for sign in (*manner, "\n", "n") if sign]
    for many in range(4):
        for tail in itertools.product(signs, repeat=many):
            if reads(text + "".join(tail), manner):
                return True
    return False


def broken(text, manner):
    """The place where a text breaks that does not read."""
    for place in range(len(text)):
        if not goes_on(text[:place + 1], manner):
            return place
    return len(text)


def tables(text):
    """Each manner that fits the text, with the table that it reads."""
    found = {}
    for manner in MANNERS:
        if reads(text, manner):
            table = rows(text, manner)
            if table and len({len(row) for row in table}) == 1 and len(table[0]) >= 2:
                found[manner] = table
    return found


def parted(one, other):
    """The first row and cell at which not both tables have the same cell, or None."""
    cells = [{(r, c): cell for r, row in enumerate(table) for c, cell in enumerate(row)} for table in (one, other)]
    unlike = [place for place in cells[0].keys() | cells[1].keys() if cells[0].get(place) != cells[1].get(place)]
    return min(unlike, default=None)


def has_width(text, manner, wide):
    return reads(text, manner) and all(len(row) == wide for row in rows(text, manner))


def neighbours(text, signs):
    for place in range(len(text)):
        yield text[:place] + text[place + 1:]
    for place in range(len(text) + 1):
        for sign in signs:
            yield text[:place] + sign + text[place:]


def nearest(text, manner, wide, signs):
    """How far the nearest texts are, and all of them that these signs allow, by trying out ever more changes."""
    seen = {text}
    layer = [text]
    many = 0
    while True:
        good = [each for each in layer if has_width(each, manner, wide)]
        if good:
            return many, good
        many += 1
        following = []
        for each in layer:
            for near in neighbours(each, signs):
                if near not in seen:
                    seen.add(near)
                    following.append(near)
        layer = following


def texts(signs, most):
    """All texts of these signs with at most so many of them."""
    for many in range(most + 1):
        for each in itertools.product(signs, repeat=many):
            yield "".join(each)
