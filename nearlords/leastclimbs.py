"""Runs of ups to the form that have as few deeds as can be."""
from nearlords.climbs import left_by_lords
from nearlords.errors import TooMany
from nearlords.lords import lords
from nearlords.orderlooks import row_of, rows_count
from nearlords.orders import closed_order

MOST_CLIMBINGS = 12


def least_climbs(order, house):
    """Return the number of least runs to the form."""
    left = _left_by_all(order, house)
    climbings = [(x, i) for x in range(order.n) for i in range(len(left[x]))]
    many = len(climbings)
    if many > MOST_CLIMBINGS:
        raise TooMany(many)
    if many == 0:
        return 1
    # The climbings are the places of an order in which those waited for are
    # less, so the least runs are the rows of that order.
    waits = [(j, k) for j in range(many) for k in range(many) if _waits(left, climbings[k], climbings[j])]
    return rows_count(closed_order(many, tuple(waits)))


def climb_rounds(order, house):
    """Return the greatest number of climbings that wait for one another."""
    left = _left_by_all(order, house)
    rounds = [0] * order.n
    # Whatever a place leaves is less than it, so it comes earlier in the row.
    for x in row_of(order):
        for other in left[x]:
            rounds[x] = 1 + max(rounds[x], rounds[other])
    return max(rounds)


def _left_by_all(order, house):
    """Return for each place those that it leaves by its climbings, in turn."""
    form = lords(order, house)
    return [left_by_lords(form, x, house[x]) for x in range(order.n)]


def _waits(left, late, early):
    """Tell whether a climbing waits for another one at once."""
    x, i = late
    return early == (x, i - 1) or early[0] == left[x][i]
