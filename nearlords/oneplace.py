"""Houses in which at most one place has another parent."""
from nearlords.errors import Unlike
from nearlords.houseroads import ways
from nearlords.houses import made_house
from nearlords.joined import check_joined


def apart(one, two):
    """Return how many places have unlike parents in two houses."""
    made_house(one)
    made_house(two)
    if len(one) != len(two):
        raise Unlike(len(two))
    return len(_unlike_places(one, two))


def one_apart(order, one, two):
    """Return the fewest deeds between houses apart at one place, or None."""
    check_joined(order, one, two)
    places = _unlike_places(one, two)
    if not places:
        return 0
    if len(places) > 1:
        return None
    return ways(one, one[places[0]], two[places[0]])


def _unlike_places(one, two):
    """Return the places that have unlike parents in two houses."""
    return [x for x in range(len(one)) if one[x] != two[x]]
