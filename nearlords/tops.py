"""The nearest house to which several houses climb."""
from nearlords.climbboxes import climb_count
from nearlords.climbs import between
from nearlords.errors import BadCount, NotJoined
from nearlords.houses import check_house
from nearlords.joined import check_joined
from nearlords.lords import lords


def top_of(order, one, two):
    """Return the house to which both climb and which climbs to all such."""
    check_joined(order, one, two)
    form = lords(order, one)
    return tuple([_first_on_both(form, one, two, x) for x in range(order.n)])


def top_of_all(order, houses):
    """Return the house to which all climb and which climbs to all such."""
    if not houses:
        raise BadCount(0)
    for house in houses:
        check_house(order, house)
    for index, house in enumerate(houses):
        if lords(order, house) != lords(order, houses[0]):
            raise NotJoined(index)
    top = houses[0]
    for house in houses[1:]:
        top = top_of(order, top, house)
    return top


def common_count(order, one, two):
    """Return the number of houses to which both houses climb."""
    return climb_count(order, top_of(order, one, two))


def _first_on_both(form, one, two, x):
    """Return the first above x in one, up to its lord, that is so in two."""
    other = between(form, two, x)
    both = [above for above in between(form, one, x) if above in other]
    return (both + [form[x]])[0]
