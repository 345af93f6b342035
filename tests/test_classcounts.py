"""How many classes, which is the n-th, by the door: classcounts, nthclass, doorclasses ([35], [36])."""
import math
import random

from nearlords.boxes import box_of, size
from nearlords.classcounts import class_count
from nearlords.doorclasses import door_classes
from nearlords.high import is_high
from nearlords.housecounts import door_count, house_count
from nearlords.nthclass import class_rank, nth_class
from nearlords.ordermakers import chain, flat, ranked
from nearlords.shares import poly_times
from tests import oracle
from tests.base import NO_PLACES, Case, all_houses, big_orders, kinds_of_orders, quick, samples, some_house

# The forms of chain(3) in the document, with the sizes of their classes.
FORMS = ((-1, -1, -1), (-1, 2, -1), (1, -1, -1), (1, 2, -1), (2, -1, -1), (2, 2, -1))
SIZES = (6, 2, 3, 1, 2, 2)


_KEPT = []


def orders_with_forms():
    """Return orders of 1 to 6 places, each with all its forms, ascending."""
    if not _KEPT:
        _KEPT.extend((order, oracle.forms_of(order, all_houses(order.n))) for order in kinds_of_orders())
    return _KEPT


def chain_form(n, k):
    """Return the form of chain(n) with a number: each place stands under the door or any one after it."""
    form = []
    for x in reversed(range(n)):
        k, figure = divmod(k, n - x)
        form.insert(0, (-1, *range(x + 1, n))[figure])
    return tuple(form)


class ClassCount(Case):

    def test_examples(self):
        self.same(class_count(chain(3)), 6)
        self.same(class_count(ranked((0, 0, 1))), 8)
        self.same(class_count(flat(2)), 3)
        self.same(class_count(chain(1)), 1)

    def test_by_listing(self):
        for order, forms in orders_with_forms():
            self.same(class_count(order=order), len(forms))

    def test_chains_and_flat_orders(self):
        for n in range(1, 17):
            self.same(class_count(chain(n)), math.factorial(n))
            self.same(class_count(flat(n)), house_count(n))

    def test_sizes_of_all_classes_together(self):
        self.assertEqual(tuple(size(box_of(chain(3), form)) for form in FORMS), SIZES)
        for order, forms in orders_with_forms():
            if len(forms) <= 1000:
                found = [nth_class(order, k) for k in range(class_count(order))]
                self.assertEqual(sum(size(box_of(order, form)) for form in found), house_count(order.n))

    def test_16_places(self):
        with quick(3):
            for order in big_orders():
                self.assertLessEqual(math.factorial(16), class_count(order))
                self.assertLessEqual(class_count(order), 17 ** 15)
        # The greatest place stands at the door, as it does in 2 * 17 ** 14 of all houses.
        self.same(class_count(ranked((0,) * 15 + (1,))), 2 * 17 ** 14)


class NthClass(Case):

    def test_examples(self):
        self.assertEqual(tuple(nth_class(chain(3), k) for k in range(6)), FORMS)
        self.same(class_rank(chain(3), (-1, 0, 1)), 0)
        self.same(nth_class(flat(1), 0), (-1,))
        self.same(class_rank(flat(1), (-1,)), 0)

    def test_by_listing(self):
        for order, forms in orders_with_forms():
            for k in range(0, len(forms), 1 + len(forms) // 150):
                self.same(nth_class(order=order, k=k), forms[k])
                self.same(class_rank(order=order, house=forms[k]), k)
            self.same(nth_class(order, len(forms) - 1), forms[-1])

    def test_rank_of_any_house(self):
        dice = random.Random(70)
        for order, forms in orders_with_forms():
            for _ in range(20):
                house = some_house(dice, order.n)
                self.same(class_rank(order, house), forms.index(oracle.lords_of(order, house)))

    def test_16_places(self):
        dice = random.Random(71)
        for order in big_orders():
            many = class_count(order)
            with quick(5):
                found = []
                for k in sorted((0, 1, many // 2, many - 2, many - 1, dice.randrange(many), dice.randrange(many))):
                    found.append(nth_class(order, k))
                    self.assertTrue(is_high(order, found[-1]))
                    self.same(class_rank(order, found[-1]), k)
                self.assertEqual(found, sorted(found))
                self.assertEqual(found[0], (-1,) * 16)
            house = some_house(dice, 16)
            self.same(nth_class(order, class_rank(order, house)), oracle.lords_of(order, house))

    def test_a_chain_of_16(self):
        dice = random.Random(72)
        for _ in range(20):
            k = dice.randrange(math.factorial(16))
            self.same(nth_class(chain(16), k), chain_form(16, k))
            self.same(class_rank(chain(16), chain_form(16, k)), k)

    def test_refusals(self):
        for order in (flat(1), chain(2), chain(3), ranked((0, 0, 1)), chain(16), flat(16)):
            many = class_count(order)
            for k in (-1, many, many + 1, -many, 10 ** 40, -10 ** 40):
                self.refused("BadCount", k, nth_class, order, k)
        self.refuses_bad_houses(lambda house: class_rank(chain(3), house))
        self.refuses_bad_houses(lambda house: class_rank(house=house, order=flat(3)))
        self.refused("BadSize", 0, class_rank, chain(1), ())
        for n in (17, 20):
            self.refused("BadSize", n, class_rank, chain(16), NO_PLACES[:1] * n)


class DoorClasses(Case):

    def test_examples(self):
        self.same(door_classes(chain(3)), (0, 2, 3, 1))
        self.same(door_classes(flat(1)), (0, 1))
        self.same(door_classes(flat(2)), (0, 2, 1))

    def test_by_listing(self):
        for order, forms in orders_with_forms():
            doors = [form.count(-1) for form in forms]
            self.same(door_classes(order=order), tuple(doors.count(k) for k in range(order.n + 1)))

    def test_chains_and_flat_orders(self):
        rising = (0, 1)
        for n in range(1, 17):
            self.same(door_classes(chain(n)), rising)
            rising = poly_times(rising, (n, 1))
            self.same(door_classes(flat(n)), tuple(door_count(n, k) for k in range(n + 1)))

    def test_16_places(self):
        with quick(3):
            for order in big_orders() + [order for order, _ in samples(10, 16, seed=73)]:
                counts = door_classes(order)
                self.assertEqual(len(counts), 17)
                self.assertEqual((counts[0], counts[16], sum(counts)), (0, 1, class_count(order)))
                # Of one place alone beside the door each other one tells where it stands.
                under = sum(1 for x in range(16) for y in range(16) if x != y and y not in order.lesser[x])
                self.assertEqual(counts[15], under)
