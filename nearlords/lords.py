"""Lords: what never changes for a place."""
from nearlords.houses import check_house


def lords(order, house):
    """Return the tuple of the lords of all places."""
    check_house(order, house)
    return tuple([_lord(order, house, x) for x in range(order.n)])


def _lord(order, house, x):
    """Return the nearest place above x that is not less than x, or the door."""
    above = house[x]
    while above in order.lesser[x]:
        above = house[above]
    return above
