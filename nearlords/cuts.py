"""Cutting a house in two."""
from nearlords.checks import DOOR
from nearlords.errors import BadSize
from nearlords.houseroads import beneath
from nearlords.houses import check_house
from nearlords.orderjoins import kept


def cut(order, house, x):
    """Return the order and the house of x and all that stand beneath it."""
    return kept_pair(order, house, _bough(order, house, x))


def without_bough(order, house, x):
    """Return the order and the house of all but x and those beneath it."""
    bough = _bough(order, house, x)
    if len(bough) == order.n:
        raise BadSize(order.n)
    return kept_pair(order, house, tuple([y for y in range(order.n) if y not in bough]))


def kept_pair(order, house, places):
    """Return the order and the house of some places, numbered anew.

    Whoever has a parent that is not among them comes to stand at the door.
    """
    anew = {p: k for k, p in enumerate(places)}
    parents = [anew.get(house[p], DOOR) for p in places]
    return kept(order, places), tuple(parents)


def _bough(order, house, x):
    """Return x and all that stand beneath it, ascending."""
    check_house(order, house)
    return tuple(sorted(beneath(house, x) + (x,)))
