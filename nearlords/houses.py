"""Houses: the parent of each place."""
from nearlords.checks import DOOR, check_size, is_number_row
from nearlords.errors import BadParent, Refused, Round, Unlike


def made_house(parents):
    """Return the house with these parents."""
    n = len(parents)
    check_size(n)
    for x, parent in enumerate(parents):
        if parent == x or not DOOR <= parent < n:
            raise BadParent(x)
    for x in range(n):
        if not _comes_to_door(parents, x):
            raise Round(x)
    return parents


def is_house(thing):
    """Judge whether a thing is a house."""
    if not is_number_row(thing):
        return False
    try:
        made_house(thing)
    except Refused:
        return False
    return True


def check_house(order, house):
    """Refuse what is no house of the places of an order or a box's order."""
    made_house(house)
    if len(house) != order.n:
        raise Unlike(len(house))


def is_house_of(order, thing):
    """Judge whether a thing is a house of as many places as an order."""
    return is_house(thing) and len(thing) == order.n


def _comes_to_door(parents, x):
    """Tell whether one comes from x to the door."""
    # Whoever has not come there by as many steps as there are places goes round.
    for _ in parents:
        if x != DOOR:
            x = parents[x]
    return x == DOOR
