"""Judging runs."""
from nearlords.errors import Refused
from nearlords.houses import is_house_of
from nearlords.runs import walked


def run_right(order, house, run, goal):
    """Judge whether a run leads from one house to another one."""
    if not is_house_of(order, house) or not is_house_of(order, goal) or not isinstance(run, tuple):
        return False
    try:
        end = walked(order, house, run)
    except Refused:
        return False
    return end == goal
