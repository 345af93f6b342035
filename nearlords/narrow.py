"""Boxes made narrower, and what two boxes have in common."""
from nearlords.boxes import with_rows
from nearlords.checks import check_place
from nearlords.errors import BadNarrow, Unlike


def narrowed(box, x, parents):
    """Return the box in which the row of x is a part of the former one."""
    check_place(box.order.n, x)
    for index, parent in enumerate(parents):
        if parent not in box.rows[x] or (index > 0 and parent <= parents[index - 1]):
            raise BadNarrow(index)
    if not parents:
        raise BadNarrow(-1)
    return with_rows(box, box.rows[:x] + (parents,) + box.rows[x + 1:])


def both_boxes(one, two):
    """Return the box of the houses that are in both boxes, or None."""
    check_one_class(one, two)
    rows = tuple([both_rows(left, right) for left, right in zip(one.rows, two.rows)])
    return None if () in rows else with_rows(one, rows)


def check_one_class(one, two):
    """Refuse two boxes that are not of one class of one order."""
    if one.order != two.order:
        raise Unlike(0)
    if one.lords != two.lords:
        raise Unlike(1)


def both_rows(left, right):
    """Return the parents that two rows have in common."""
    return tuple([parent for parent in left if parent in right])
