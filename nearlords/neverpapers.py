"""Papers that a place never comes to stand under another one."""
from nearlords.checks import DOOR, check_place, check_place_or_door, is_number
from nearlords.houses import is_house_of
from nearlords.lords import lords


def never_paper(order, house, x, y):
    """Return the row of y and its lords that does not come to the lord of x, or None."""
    form = lords(order, house)
    check_place(order.n, x)
    check_place_or_door(order.n, y)
    row = _row_from(order, form, x, y)
    return None if row[-1] == form[x] else row


def never_right(order, house, x, y, row):
    """Judge a paper that y is the parent of x in no house of the class."""
    if not is_house_of(order, house) or not is_number(x) or not is_number(y):
        return False
    if not 0 <= x < order.n or not DOOR <= y < order.n:
        return False
    form = lords(order, house)
    return row == _row_from(order, form, x, y) and row[-1] != form[x]


def _row_from(order, form, x, y):
    """Return y, its lord, the lord of that .. up to the first not less than x."""
    row = [y]
    while row[-1] in order.lesser[x]:
        row.append(form[row[-1]])
    return tuple(row)
