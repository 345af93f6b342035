"""The houses to which a house can climb."""
from nearlords.boxes import Box, holds, size
from nearlords.climbs import between
from nearlords.houses import check_house
from nearlords.lords import lords


def climb_box(order, house):
    """Return the box of the houses to which runs of ups lead."""
    form = lords(order, house)
    rows = [tuple(sorted(between(form, house, x) + (form[x],))) for x in range(order.n)]
    return Box(order, form, tuple(rows))


def climbs_to(order, house, other):
    """Tell whether a run of ups leads from one house to another one."""
    box = climb_box(order, house)
    check_house(order, other)
    return holds(box, other)


def climb_count(order, house):
    """Return to how many houses runs of ups lead, the house itself counted."""
    return size(climb_box(order, house))
