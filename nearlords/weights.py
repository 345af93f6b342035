"""Sums over a box by a table, and houses drawn by it."""
from nearlords.boxranks import rest_of
from nearlords.errors import BadCount
from nearlords.tables import chance_rows, check_table, number_sum, row_numbers, whole_weight


def weighed(box, table):
    """Return the sum of the products of the numbers of the parents."""
    check_table(box.order.n, table)
    weight = 1
    for numbers in row_numbers(box, table):
        weight *= sum(numbers)
    return weight


def drawn_by(box, table, digits):
    """Return the house that some digits draw, each as often as its product."""
    likely = chance_rows(box, table)
    if not digits:
        raise BadCount(0)
    rest = rest_of(digits, whole_weight(likely))
    parents = []
    for x in reversed(range(box.order.n)):
        many = number_sum(likely[x])
        parents.append(_parent_at(likely[x], rest % many))
        rest = rest // many
    return tuple(parents[::-1])


def _parent_at(row, figure):
    """Return the first parent at which the sum so far is above a figure."""
    reached = []
    for parent, number in row:
        figure -= number
        if figure < 0:
            reached.append(parent)
    return reached[0]
