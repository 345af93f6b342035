"""The forms of an order by their numbers."""
from nearlords.checks import DOOR
from nearlords.classcounts import class_count, forms_weight
from nearlords.errors import BadCount
from nearlords.lords import lords


def nth_class(order, k):
    """Return the form that has a number."""
    if not 0 <= k < class_count(order):
        raise BadCount(k)
    told = ()
    for _ in range(order.n):
        parent = DOOR
        many = _forms_with(order, told + (parent,))
        while k >= many:
            k -= many
            parent += 1
            many = _forms_with(order, told + (parent,))
        told = told + (parent,)
    return told


def class_rank(order, house):
    """Return the number of the form of the class of a house."""
    form = lords(order, house)
    number = 0
    for x, lord in enumerate(form):
        number += sum([_forms_with(order, form[:x] + (parent,)) for parent in range(DOOR, lord)])
    return number


def _forms_with(order, told):
    """Return how many forms begin with the told parents."""
    table = [tuple([1 if parent == p else 0 for p in range(DOOR, order.n)]) for parent in told]
    free = [(1,) * (order.n + 1)] * (order.n - len(told))
    return forms_weight(order, table + free)
