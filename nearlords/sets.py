"""Setting a house under a place of another one."""
from nearlords.checks import DOOR, check_place_or_door
from nearlords.houses import check_house
from nearlords.orderjoins import side


def set_under(one, first, two, second, p):
    """Return the order side by side and the house with second under p."""
    check_house(one, first)
    check_house(two, second)
    check_place_or_door(one.n, p)
    below = [p if parent == DOOR else parent + one.n for parent in second]
    return side(one, two), first + tuple(below)
