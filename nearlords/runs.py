"""Runs: deeds one behind the other."""
from nearlords.deeds import may_be_done, moved, taking_back
from nearlords.errors import BadRow, TooMany
from nearlords.houses import check_house

MOST_DEEDS = 2000


def walked(order, house, run):
    """Return the house to which a run leads."""
    return _houses_on(order, house, run)[-1]


def turned_run(order, house, run):
    """Return the run from the end of a run back to its beginning."""
    houses = _houses_on(order, house, run)
    return tuple([taking_back(houses[k], run[k]) for k in reversed(range(len(run)))])


def ups(run):
    """Return how many deeds of a run are up."""
    _check_length(run)
    return len([deed for deed in run if deed[0] == "up"])


def _houses_on(order, house, run):
    """Return the house before each deed of a run and the last one."""
    check_house(order, house)
    _check_length(run)
    houses = [house]
    for index, deed in enumerate(run):
        if not may_be_done(order, houses[-1], deed):
            raise BadRow(index)
        houses.append(moved(houses[-1], deed))
    return houses


def _check_length(run):
    """Refuse a run of too many deeds."""
    if len(run) > MOST_DEEDS:
        raise TooMany(len(run))
