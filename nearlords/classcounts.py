"""How many classes an order has."""
from nearlords.determinants import determinant


def class_count(order):
    """Return the number of classes of an order."""
    return forms_weight(order, ((1,) * (order.n + 1),) * order.n)


def forms_weight(order, table):
    """Return the sum, over all forms, of the products of their parents' numbers.

    The numbers stand as in a table, but may be any.
    """
    # The matrix-tree theorem: a form is a tree of the parents, with the door
    # as its root, in which no place stands under one that is less than it.
    rows = []
    for x in range(order.n):
        row = [-table[x][y + 1] for y in range(order.n)]
        for y in order.lesser[x] + (x,):
            row[y] = 0
        row[x] = table[x][0] - sum(row)
        rows.append(row)
    return determinant(rows)
