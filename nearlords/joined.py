"""Houses of one class, and the runs between them."""
from nearlords.climbed import climb_run
from nearlords.errors import NotJoined
from nearlords.lords import lords
from nearlords.runs import turned_run


def joined(order, one, two):
    """Tell whether two houses are of one class."""
    return lords(order, one) == lords(order, two)


def run_between(order, one, two):
    """Return the run from one house by way of the form to the other one."""
    check_joined(order, one, two)
    return climb_run(order, one) + turned_run(order, two, climb_run(order, two))


def check_joined(order, one, two):
    """Refuse what are no houses of an order, then what are not joined."""
    if not joined(order, one, two):
        raise NotJoined(0)
