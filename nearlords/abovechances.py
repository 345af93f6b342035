"""The chances of who stands above whom in a box."""
from nearlords.checks import DOOR, check_place
from nearlords.shares import share
from nearlords.tables import chance_rows, mean_weight, whole_weight


def above_chance(box, x, y, *, table=None):
    """Return the chance that y stands above x."""
    check_place(box.order.n, x)
    check_place(box.order.n, y)
    likely = chance_rows(box, table)
    return share(_weights_beneath(likely, y)[x], whole_weight(likely))


def sure_above(box, x, *, table=None):
    """Return the places that stand above x with the chance 1."""
    check_place(box.order.n, x)
    likely = chance_rows(box, table)
    whole = whole_weight(likely)
    return tuple([y for y in range(box.order.n) if _weights_beneath(likely, y)[x] == whole])


def may_above(box, x, *, table=None):
    """Return the places that stand above x with a chance above 0."""
    check_place(box.order.n, x)
    likely = chance_rows(box, table)
    return tuple([y for y in range(box.order.n) if _weights_beneath(likely, y)[x] > 0])


def beneath_mean(box, y, *, table=None):
    """Return the mean of the number of places beneath y."""
    check_place(box.order.n, y)
    likely = chance_rows(box, table)
    weights = _weights_beneath(likely, y)
    return share(sum([weights[x] for x in range(box.order.n)]), whole_weight(likely))


def _weights_beneath(likely, y):
    """Return for each place the weight of the houses in which it is beneath y."""
    whole = whole_weight(likely)
    reached = {DOOR: 0}
    for x, row in likely.items():
        reached[x] = whole if x == y else mean_weight(row, reached)
    # So far y counts as being beneath itself.
    reached[y] = 0
    return reached
