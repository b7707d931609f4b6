"""How one sign is read: from the state ahead of it to the state behind it."""

from tablemanners.manners import ROW_END

# ROW is entered by a row's end only and BEGIN by a mark only: each of them tells that a cell has ended.
ROW = "row"
BEGIN = "begin"
BARE = "bare"
QUOTED = "quoted"
# Behind a quote in a quoted cell: whether it has ended the cell shows at the next sign.
BEHIND = "behind"
ESCAPED = "escaped"
WRONG = "wrong"


def step(manner, state, sign):
    """The state behind the sign, and what of the cell is known with it."""
    if state == QUOTED:
        return step_quoted(manner, sign)
    if state == BEHIND:
        return step_behind(manner, sign)
    if state == ESCAPED:
        return step_escaped(manner, sign)
    return step_bare(manner, state, sign)


def step_bare(manner, state, sign):
    """The step at the begin of a cell and in a cell without quotes around it."""
    mark, quote, escape = manner
    if sign == mark:
        return BEGIN, ""
    if sign == ROW_END:
        return ROW, ""
    if sign == quote:
        return (WRONG if state == BARE else QUOTED), ""
    # Beside a quote the escape is an ordinary sign of a bare cell.
    if sign == escape and quote == "":
        return ESCAPED, ""
    return BARE, sign


def step_quoted(manner, sign):
    """The step within the quotes."""
    mark, quote, escape = manner
    if sign == quote:
        return BEHIND, ""
    if sign == escape:
        return ESCAPED, ""
    return QUOTED, sign


def step_behind(manner, sign):
    """The step behind a quote that may have ended the cell."""
    mark, quote, escape = manner
    if sign == mark:
        return BEGIN, ""
    if sign == ROW_END:
        return ROW, ""
    if sign == quote and escape == "":
        return QUOTED, quote
    return WRONG, ""


def step_escaped(manner, sign):
    """The step behind an escape."""
    mark, quote, escape = manner
    if quote != "":
        return (QUOTED, sign) if sign in (quote, escape) else (WRONG, "")
    if sign in (mark, escape):
        return BARE, sign
    if sign == "n":
        return BARE, ROW_END
    return WRONG, ""
