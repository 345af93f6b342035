"""Tables, and boxes that are weighed by them."""
from nearlords.boxes import door_and_places
from nearlords.checks import check_size
from nearlords.errors import BadPrice, BadWeight

GREATEST = 1000000000


def checked_table(n, table):
    """Return a table for n places."""
    check_size(n)
    check_table(n, table)
    return table


def check_table(n, table):
    """Refuse what is no table for n places."""
    if len(table) != n:
        raise BadPrice(len(table))
    for x, row in enumerate(table):
        if len(row) != n + 1 or not all([0 <= number <= GREATEST for number in row]):
            raise BadPrice((x,))


def row_numbers(box, table):
    """Return for each place the numbers of the parents of its row, in turn."""
    return [[table[x][parent + 1] for parent in row] for x, row in enumerate(box.rows)]


def chance_rows(box, table):
    """Return for each place the parents that it may have, with their numbers.

    The places come in such a row that each stands behind its parents.
    """
    n = box.order.n
    if table is None:
        table = ((1,) * (n + 1),) * n
    check_table(n, table)
    numbers = row_numbers(box, table)
    for x in range(n):
        if sum(numbers[x]) == 0:
            raise BadWeight(x)
    likely = {}
    for x in door_and_places(box)[1:]:
        likely[x] = [pair for pair in zip(box.rows[x], numbers[x]) if pair[1] > 0]
    return likely


def number_sum(row):
    """Return the sum of the numbers of a row of parents with their numbers."""
    return sum([number for _, number in row])


def whole_weight(likely):
    """Return the sum of the products of the numbers over all houses."""
    weight = 1
    for row in likely.values():
        weight *= number_sum(row)
    return weight


def mean_weight(row, weights):
    """Return the mean, over a row, of the weights of its parents.

    A weight of a parent is a sum over all houses. It does not depend on the
    place of the row, so it has the sum of the row as a divisor.
    """
    return sum([number * weights[parent] for parent, number in row]) // number_sum(row)
