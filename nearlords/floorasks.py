"""What one asks of a floor."""
from nearlords.admitted import admitted
from nearlords.boxes import box_of, size
from nearlords.joined import joined, run_between
from nearlords.nopapers import no_paper


def can_go_home(floor):
    """Tell whether the house and the mark have the same lords."""
    return joined(floor.order(), floor.house(), floor.marked())


def way_home(floor):
    """Return the run from the house to the mark."""
    return run_between(floor.order(), floor.house(), floor.marked())


def why_not(floor):
    """Return the paper that the house and the mark are not joined."""
    return no_paper(floor.order(), floor.house(), floor.marked())


def kin(floor):
    """Return how many houses the class of the house has."""
    return size(box_of(floor.order(), floor.house()))


def choices(floor, x):
    """Return the parents admitted to x."""
    return admitted(floor.order(), floor.house(), x)
