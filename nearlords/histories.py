"""Histories: houses of which each next one is made by one deed."""
from nearlords.deeds import let_deeds, moved
from nearlords.errors import BadCount, BadRow, Refused, TooMany
from nearlords.houses import check_house, is_house_of

MOST_HOUSES = 300


def deeds_between(order, houses):
    """Return the run of the deeds of all steps."""
    if len(houses) > MOST_HOUSES:
        raise TooMany(len(houses))
    if not houses:
        raise BadCount(0)
    for house in houses:
        check_house(order, house)
    run = []
    for index in range(len(houses) - 1):
        deeds = [deed for deed in let_deeds(order, houses[index]) if moved(houses[index], deed) == houses[index + 1]]
        if not deeds:
            raise BadRow(index)
        run.append(deeds[0])
    return tuple(run)


def history_right(order, houses):
    """Judge whether houses is a history of an order."""
    if not isinstance(houses, tuple) or not all([is_house_of(order, house) for house in houses]):
        return False
    try:
        deeds_between(order, houses)
    except Refused:
        return False
    return True


def shortened(order, houses):
    """Return the history without what lies between equal houses."""
    deeds_between(order, houses)
    last = {house: index for index, house in enumerate(houses)}
    found = []
    at = 0
    while at < len(houses):
        found.append(houses[at])
        at = last[houses[at]] + 1
    return tuple(found)
