"""New names for the places of an order and a house."""
from nearlords.checks import DOOR
from nearlords.errors import BadPlace, BadSize
from nearlords.houses import check_house
from nearlords.orders import Order


def renamed(order, house, places):
    """Return the order and the house in which each p is called places[p]."""
    check_house(order, house)
    if len(places) != order.n:
        raise BadSize(len(places))
    for index, p in enumerate(places):
        if not 0 <= p < order.n or p in places[:index]:
            raise BadPlace(index)
    lesser = []
    parents = []
    for name in range(order.n):
        x = places.index(name)
        lesser.append(tuple(sorted([places[y] for y in order.lesser[x]])))
        parents.append(DOOR if house[x] == DOOR else places[house[x]])
    return Order(order.n, tuple(lesser)), tuple(parents)
