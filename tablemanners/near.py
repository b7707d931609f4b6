"""How many signs have to be put in or taken out of a text."""

from tablemanners.manners import ROW_END
from tablemanners.rows import rows_of
from tablemanners.steps import BEGIN, ROW, WRONG, step


def has_width(text, manner, wide):
    """Whether the text reads by the manner with so many cells in each row."""
    rows, place = rows_of(text, manner)
    return place is None and all([len(row) == wide for row in rows])


def apart(one, other):
    """The fewest signs put in or taken out that turn the one text into the other."""
    costs = list(range(len(other) + 1))
    for sign in one:
        row = [costs[0] + 1]
        for place, mate in enumerate(other):
            if sign == mate:
                row.append(costs[place])
            else:
                row.append(1 + min(costs[place + 1], row[place]))
        costs = row
    return costs[len(other)]


def fewest(text, manner, wide):
    """The fewest signs put in or taken out so that the text reads with so many cells in each row."""
    return best_way(text, manner, wide)[0]


def nearest_text(text, manner, wide):
    """A text with so many cells in each row to which the fewest signs lead."""
    return best_way(text, manner, wide)[1]


def best_way(text, manner, wide):
    """The fewest signs put in or taken out, and a text to which they lead."""
    # A spot is a state of reading and how many cells of the row have ended there; a way to it is how many signs
    # it has put in or taken out, and the text made so far.
    ways = with_put_in({(ROW, 0): (0, "")}, manner, wide)
    for sign in text:
        ways = with_put_in(behind_sign(ways, sign, manner, wide), manner, wide)
    return ways[(ROW, 0)]


def behind_sign(ways, sign, manner, wide):
    """The best way to each spot behind the sign, which is taken out or left in."""
    after = {spot: (ways[spot][0] + 1, ways[spot][1]) for spot in ways}
    for spot in ways:
        cost, made = ways[spot]
        take_if_better(after, next_spot(spot, sign, manner, wide), cost, made + sign)
    return after


def with_put_in(ways, manner, wide):
    """The best way to each spot, where signs may also be put in."""
    best = {spot: ways[spot] for spot in ways}
    waiting = list(ways)
    while len(waiting) > 0:
        spot = waiting.pop()
        cost, made = best[spot]
        for sign in worth_putting_in(manner):
            reached = next_spot(spot, sign, manner, wide)
            if take_if_better(best, reached, cost + 1, made + sign):
                waiting.append(reached)
    return best


def take_if_better(ways, spot, cost, made):
    """Whether this way is taken, as the spot can be reached and has none or a longer one."""
    if spot is None or (spot in ways and ways[spot][0] <= cost):
        return False
    ways[spot] = (cost, made)
    return True


def worth_putting_in(manner):
    """The signs that may have to be put in."""
    # Any other sign only stands for itself: without it the text reads with the same count of cells.
    return [sign for sign in (*manner, ROW_END, "n") if sign != ""]


def next_spot(spot, sign, manner, wide):
    """The spot behind the sign, or None where the row could no longer have so many cells."""
    state, ended = spot
    reached, known = step(manner, state, sign)
    if reached == WRONG:
        return None
    if reached == BEGIN:
        return (BEGIN, ended + 1) if ended + 1 < wide else None
    if reached == ROW:
        return (ROW, 0) if ended + 1 == wide else None
    return reached, ended
