"""The rows of a text by a manner, or the place where it breaks."""

from tablemanners.steps import BEGIN, ROW, WRONG, step


def row_at(text, begin, manner):
    """The cells of the row at the begin and the place of its row's end; or None and the place where it breaks."""
    cells = []
    cell = ""
    state = ROW
    for place in range(begin, len(text)):
        state, known = step(manner, state, text[place])
        if state == WRONG:
            return None, place
        cell += known
        if state in (BEGIN, ROW):
            cells.append(cell)
            cell = ""
        if state == ROW:
            return cells, place
    return None, len(text)


def rows_of(text, manner):
    """The rows of the text and None; or None and the place where it breaks."""
    rows = []
    begin = 0
    while begin < len(text):
        cells, place = row_at(text, begin, manner)
        if cells is None:
            return None, place
        rows.append(cells)
        begin = place + 1
    return rows, None
