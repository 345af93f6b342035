"""High houses."""
from nearlords.houses import check_house


def is_high(order, house):
    """Tell whether no place has a parent that is less than it."""
    check_house(order, house)
    return all([house[x] not in order.lesser[x] for x in range(order.n)])
