"""The cheapest houses of a box."""
from nearlords.tables import check_table, row_numbers


def cheapest(box, table):
    """Return the least sum, how many houses have it, and the first of them."""
    check_table(box.order.n, table)
    least = 0
    many = 1
    first = []
    for row, numbers in zip(box.rows, row_numbers(box, table)):
        low = min(numbers)
        least += low
        many *= numbers.count(low)
        first.append(row[numbers.index(low)])
    return least, many, tuple(first)
