"""Doing a deed."""
from nearlords.deeds import check_deed, is_let, moved
from nearlords.errors import BadDeed
from nearlords.houses import check_house


def done(order, house, deed):
    """Return the house behind a deed."""
    check_house(order, house)
    check_deed(house, deed)
    if not is_let(order, house, deed):
        raise BadDeed(2)
    return moved(house, deed)
