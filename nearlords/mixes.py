"""Mixing two houses of one class."""
from nearlords.checks import check_places
from nearlords.joined import check_joined


def mixed(order, one, two, places):
    """Return house one, but with the parents of two at the given places."""
    check_joined(order, one, two)
    check_places(order.n, places)
    return tuple([two[x] if x in places else one[x] for x in range(order.n)])
