"""Orders within orders: the forms of a lesser order in a box."""
from nearlords.boxes import box_of, size, with_rows
from nearlords.errors import NotOrder, Unlike


def forms_box(box, under):
    """Return the box of the houses that are high for the order under, or None."""
    if under.n != box.order.n:
        raise Unlike(under.n)
    _check_within(under, box.order)
    rows = [tuple([p for p in row if p not in under.lesser[x]]) for x, row in enumerate(box.rows)]
    return None if () in rows else with_rows(box, tuple(rows))


def classes_within(order, under, house):
    """Return how many classes of the order under make up a class."""
    return size(forms_box(box_of(order, house), under))


def _check_within(under, order):
    """Refuse an order with a pair that is no pair of the other order."""
    for x in range(order.n):
        for y in range(order.n):
            if x in under.lesser[y] and x not in order.lesser[y]:
                raise NotOrder((x, y))
