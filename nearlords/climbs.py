"""How the places of a house climb to their lords."""
from nearlords.checks import check_place
from nearlords.houseroads import depth, path
from nearlords.lords import lords


def steps(order, house, x):
    """Return the number of goings by lords from the parent of x to its lord."""
    form = lords(order, house)
    check_place(order.n, x)
    return len(left_by_lords(form, x, house[x]))


def between_count(order, house, x):
    """Return the number of places that stand above x and below its lord."""
    form = lords(order, house)
    check_place(order.n, x)
    return len(between(form, house, x))


def long_climb(order, house):
    """Return the run of ups to the form in which the deepest place goes first."""
    form = lords(order, house)
    run = []
    # Nobody above a place has moved before it, so it passes just those that
    # stand between it and its lord at the beginning.
    for _, x in sorted([(-depth(house, x), x) for x in range(order.n)]):
        run.extend([("up", x)] * len(between(form, house, x)))
    return tuple(run)


def left_by_lords(form, x, parent):
    """Return the places that x leaves if it climbs from a parent by lords."""
    left = []
    while parent != form[x]:
        left.append(parent)
        parent = form[parent]
    return tuple(left)


def between(form, house, x):
    """Return the places above x and below its lord, the nearest first."""
    above = path(house, x)
    return above[:above.index(form[x])]
