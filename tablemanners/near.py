"""How many signs have to be put in or taken out of a text."""

from tablemanners.manners import ROW_END
from tablemanners.rows import rows_of
from tablemanners.steps import BEGIN, ROW, WRONG, step


def has_width(text, manner, wide):
    """Whether the text reads by the manner with so many cells in each row."""
    rows, place = rows_of(text, manner)
    return place is None and all([len(row) == wide for row in rows])


def apart(one, other):
    """The fewest signs put in or taken out that turn the one text into the other."""
    costs = list(range(len(other) + 1))
    for sign in one:
        row = [costs[0] + 1]
        for place, mate in enumerate(other):
            if sign == mate:
                row.append(costs[place])
            else:
                row.append(1 + min(costs[place + 1], row[place]))
        costs = row
    return costs[len(other)]


def fewest(text, manner, wide):
    """The fewest signs put in or taken out so that the text reads with so many cells in each row."""
    # A spot is a state of reading and how many cells of the row have ended there.
    costs = with_put_in({(ROW, 0): 0}, manner, wide)
    for sign in text:
        costs = with_put_in(behind_sign(costs, sign, manner, wide), manner, wide)
    return costs[(ROW, 0)]


def behind_sign(costs, sign, manner, wide):
    """The least cost of each spot behind the sign, which is taken out or left in."""
    after = {spot: costs[spot] + 1 for spot in costs}
    for spot in costs:
        reached = next_spot(spot, sign, manner, wide)
        if reached is not None and cheaper(costs[spot], after, reached):
            after[reached] = costs[spot]
    return after


def with_put_in(costs, manner, wide):
    """The least cost of each spot, where signs may also be put in."""
    least = {spot: costs[spot] for spot in costs}
    waiting = list(costs)
    while len(waiting) > 0:
        spot = waiting.pop()
        for sign in worth_putting_in(manner):
            reached = next_spot(spot, sign, manner, wide)
            if reached is not None and cheaper(least[spot] + 1, least, reached):
                least[reached] = least[spot] + 1
                waiting.append(reached)
    return least


def worth_putting_in(manner):
    """The signs that may have to be put in."""
    # Any other sign only stands for itself: without it the text reads with the same count of cells.
    return [sign for sign in (*manner, ROW_END, "n") if sign != ""]


def cheaper(cost, costs, spot):
    """Whether the spot is new or costs more."""
    return spot not in costs or cost < costs[spot]


def next_spot(spot, sign, manner, wide):
    """The spot behind the sign, or None where the row could no longer have so many cells."""
    state, ended = spot
    reached, known = step(manner, state, sign)
    if reached == WRONG:
        return None
    if reached == BEGIN:
        return (BEGIN, ended + 1) if ended + 1 < wide else None
    if reached == ROW:
        return (ROW, 0) if ended + 1 == wide else None
    return reached, ended
