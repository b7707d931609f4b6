"""What the document says, said once more in other ways: by regular expressions and by trying out."""

import functools
import itertools
import re

MANNERS = [
    (",", "", ""), (",", "", "\\"), (",", '"', ""), (",", '"', "\\"), (",", "'", ""), (",", "'", "\\"),
    (";", "", ""), (";", "", "\\"), (";", '"', ""), (";", '"', "\\"), (";", "'", ""), (";", "'", "\\"),
    ("|", "", ""), ("|", "", "\\"), ("|", '"', ""), ("|", '"', "\\"), ("|", "'", ""), ("|", "'", "\\"),
    (":", "", ""), (":", "", "\\"), (":", '"', ""), (":", '"', "\\"), (":", "'", ""), (":", "'", "\\"),
]

PLAIN = (",", "", "")
ESCAPING = (",", "", "\\")
QUOTING = (",", '"', "")
BOTH = (",", '"', "\\")
KINDS = [PLAIN, ESCAPING, QUOTING, BOTH]


def cell_pattern(manner):
    mark, quote, escape = manner
    m = re.escape(mark)
    if not quote and not escape:
        return rf"[^{m}\n]*"
    if not quote:
        return rf"(?:\\[{m}\\n]|[^{m}\\\n])*"
    if not escape:
        return rf"(?:[^{m}{quote}\n]*|{quote}(?:[^{quote}]|{quote}{quote})*{quote})"
    return rf"(?:[^{m}{quote}\n]*|{quote}(?:[^{quote}\\]|\\[{quote}\\])*{quote})"


def row_pattern(manner):
    cell = cell_pattern(manner)
    return rf"{cell}(?:{re.escape(manner[0])}{cell})*\n"


def reads(text, manner):
    return re.fullmatch(rf"(?:{row_pattern(manner)})*", text) is not None


def value(raw, manner):
    mark, quote, escape = manner
    if quote and raw.startswith(quote):
        inner = raw[1:-1]
        if not escape:
            return inner.replace(quote * 2, quote)
        return re.sub(r"\\(.)", r"\1", inner)
    if escape and not quote:
        return re.sub(r"\\(.)", lambda found: "\n" if found[1] == "n" else found[1], raw)
    return raw


def rows(text, manner):
    """The rows of a text that reads."""
    found = []
    for row in re.findall(row_pattern(manner), text):
        cells = []
        rest = row
        while rest:
            raw = re.match(rf"({cell_pattern(manner)})(?=[{re.escape(manner[0])}\n])", rest)[1]
            cells.append(value(raw, manner))
            rest = rest[len(raw) + 1:]
        found.append(cells)
    return found


def goes_on(text, manner):
    """Whether a text that reads begins with this one: no more than three signs can be missing."""
    signs = [sign for sign in (*manner, "\n", "n") if sign]
    for many in range(4):
        for tail in itertools.product(signs, repeat=many):
            if reads(text + "".join(tail), manner):
                return True
    return False


def broken(text, manner):
    """The place where a text breaks that does not read."""
    for place in range(len(text)):
        if not goes_on(text[:place + 1], manner):
            return place
    return len(text)


def tables(text):
    """Each manner that fits the text, with the table that it reads."""
    found = {}
    for manner in MANNERS:
        if reads(text, manner):
            table = rows(text, manner)
            if table and len({len(row) for row in table}) == 1 and len(table[0]) >= 2:
                found[manner] = table
    return found


def parted(one, other):
    """The first row and cell at which not both tables have the same cell, or None."""
    cells = [{(r, c): cell for r, row in enumerate(table) for c, cell in enumerate(row)} for table in (one, other)]
    unlike = [place for place in cells[0].keys() | cells[1].keys() if cells[0].get(place) != cells[1].get(place)]
    return min(unlike, default=None)


def has_width(text, manner, wide):
    return reads(text, manner) and all(len(row) == wide for row in rows(text, manner))


def neighbours(text, signs):
    for place in range(len(text)):
        yield text[:place] + text[place + 1:]
    for place in range(len(text) + 1):
        for sign in signs:
            yield text[:place] + sign + text[place:]


def layers(text, signs):
    """The texts to which no, one, two and so on of these signs put in or any signs taken out lead."""
    seen = {text}
    layer = [text]
    while True:
        yield layer
        layer = [near for each in layer for near in neighbours(each, signs)]
        layer = [near for near in dict.fromkeys(layer) if near not in seen]
        seen.update(layer)


def nearest(text, manner, wide, signs):
    """How far the nearest texts are, and all of them that these signs allow, by trying out ever more changes."""
    for many, layer in enumerate(layers(text, signs)):
        good = [each for each in layer if has_width(each, manner, wide)]
        if good:
            return many, good


@functools.cache
def widths(text, manner):
    """The counts of cells, from 1 to 6, that each row of the text has."""
    return [wide for wide in range(1, 7) if has_width(text, manner, wide)] if reads(text, manner) else []


def distances(text, manner, signs):
    """How far the nearest texts are, by each count of cells from 1 to 6."""
    found = {}
    for many, layer in enumerate(layers(text, signs)):
        for each in layer:
            for wide in widths(each, manner):
                found.setdefault(wide, many)
        if len(found) == 6:
            return found


def texts(signs, most):
    """All texts of these signs with at most so many of them."""
    for many in range(most + 1):
        for each in itertools.product(signs, repeat=many):
            yield "".join(each)


def row_end(text, begin, manner):
    """The place of the row's end of the row that begins there, or None where it has none."""
    for end in range(begin, len(text)):
        if re.fullmatch(row_pattern(manner), text[begin:end + 1]):
            return end
    return None


def survey(text, manner, wide):
    """What is told of each row."""
    told = []
    begin = 0
    while begin < len(text):
        end = row_end(text, begin, manner)
        if end is None:
            place = begin + broken(text[begin:], manner)
            told.append(("broken", begin, place))
            rest = text[place:]
            begin = place + rest.index("\n") + 1 if "\n" in rest else len(text)
        else:
            cells = len(rows(text[begin:end + 1], manner)[0])
            told.append(("good", begin, end) if cells == wide else ("uneven", begin, cells))
            begin = end + 1
    return told


def shortest_cells(manner, signs, most):
    """The shortest texts, of at most so many of the signs, for each cell that they can stand for."""
    found = {}
    pattern = re.compile(cell_pattern(manner))
    for raw in texts(signs, most):
        if pattern.fullmatch(raw):
            told = value(raw, manner)
            # Texts come by their length, so the first ones are the shortest.
            if told not in found or len(found[told][0]) == len(raw):
                found.setdefault(told, []).append(raw)
    return found


def apart(one, other):
    """How many signs have to be put in or taken out to turn the one text into the other."""
    @functools.cache
    def shared(left, right):
        if not left or not right:
            return 0
        if one[left - 1] == other[right - 1]:
            return 1 + shared(left - 1, right - 1)
        return max(shared(left - 1, right), shared(left, right - 1))

    return len(one) + len(other) - 2 * shared(len(one), len(other))
