"""Sums by a table over all forms of an order, and over all houses."""
from nearlords.classcounts import forms_weight
from nearlords.ordermakers import flat
from nearlords.tables import check_table


def all_weighed(order, table):
    """Return the sum over all forms of the products of their numbers."""
    check_table(order.n, table)
    return forms_weight(order, table)


def house_weighed(n, table):
    """Return the sum over all houses of the products of their numbers."""
    # In a flat order each house is a form.
    return all_weighed(flat(n), table)
