"""Striking a place out of an order and a house."""
from nearlords.checks import check_place
from nearlords.cuts import kept_pair
from nearlords.errors import BadSize, IsLord
from nearlords.lords import lords


def strike(order, house, z):
    """Return the order and the house without z."""
    form = lords(order, house)
    check_place(order.n, z)
    if order.n == 1:
        raise BadSize(1)
    if z in form:
        raise IsLord(z)
    lifted = [house[z] if parent == z else parent for parent in house]
    return kept_pair(order, lifted, tuple([x for x in range(order.n) if x != z]))
