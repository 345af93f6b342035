"""The least and the greatest number of ups to the form."""
from nearlords.climbs import between_count, steps


def fewest_ups(order, house):
    """Return the least number of deeds of a run of ups to the form."""
    return sum([steps(order, house, x) for x in range(order.n)])


def most_ups(order, house):
    """Return the greatest number of deeds of a run of ups to the form."""
    return sum([between_count(order, house, x) for x in range(order.n)])
