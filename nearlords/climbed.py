"""Climbing to the form of a class."""
from nearlords.deeds import is_let, moved
from nearlords.houses import check_house
from nearlords.lords import lords
from nearlords.orderlooks import row_of


def climb_run(order, house):
    """Return the run by which all places climb, the lesser ones first."""
    check_house(order, house)
    run = []
    for x in row_of(order):
        while is_let(order, house, ("up", x)):
            house = moved(house, ("up", x))
            run.append(("up", x))
    return tuple(run)


def climbed(order, house):
    """Return the form to which a house climbs."""
    # Where nobody can climb any more, each place stands under its lord.
    return lords(order, house)
