"""Papers that two houses are not joined, that ups do not lead there."""
from nearlords.checks import is_number, is_number_row
from nearlords.climbboxes import climb_box
from nearlords.errors import Joined
from nearlords.houses import check_house, is_house_of
from nearlords.lords import lords


def no_paper(order, one, two):
    """Return the least place whose lords differ, and its two lords."""
    left = lords(order, one)
    right = lords(order, two)
    for x in range(order.n):
        if left[x] != right[x]:
            return x, left[x], right[x]
    raise Joined(0)


def no_right(order, one, two, paper):
    """Judge a paper that two houses are not joined."""
    if not is_house_of(order, one) or not is_house_of(order, two):
        return False
    if not is_number_row(paper) or len(paper) != 3 or not 0 <= paper[0] < order.n:
        return False
    x, a, b = paper
    return a != b and a == lords(order, one)[x] and b == lords(order, two)[x]


def no_climb(order, one, other):
    """Return the least place that cannot climb to its parent, and that, or None."""
    box = climb_box(order, one)
    check_house(order, other)
    for x in range(order.n):
        if other[x] not in box.rows[x]:
            return x, other[x]
    return None


def no_climb_right(order, one, other, x, p):
    """Judge a paper that ups do not lead from one house to another one."""
    if not is_house_of(order, one) or not is_house_of(order, other):
        return False
    if not is_number(x) or not 0 <= x < order.n:
        return False
    return p == other[x] and p not in climb_box(order, one).rows[x]
