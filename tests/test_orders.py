import random
import unittest
from itertools import permutations

from lastbell import orders
from lastbell.errors import BadOrder
from lastbell.houses import House
from lastbell.orders import corner, corners, order_of, plan_by_order
from lastbell.plans import bell_of, brings, is_plan
from tests.counted import most_by_rings, most_laid_out
from tests.judged import brought, fault_by_bell, fault_of_plan, fault_turn_by_turn
from tests.made import H_ROADS, all_lots, busy_house, crossed_house, example, far_house, small_house, with_more_doors
from tests.refusals import (a_bell, a_house, an_order, judge_names, judge_refusals, judge_unchanged, listed,
                            some_wishes, tupled)
from tests.wished import asked_of_lot, one_load_more, sorts_of, wide_house

TOP = 10 ** 9


def all_orders(house):
    return [list(order) for order in permutations(range(len(house.doors())))]


def some_orders(house, seed, many):
    found = all_orders(house)
    random.Random(seed).shuffle(found)
    return found[:many]


def small_houses():
    return ([example()] + [small_house(seed) for seed in range(25)] + [busy_house(seed) for seed in range(25)]
            + [crossed_house(seed) for seed in range(25)] + [wide_house(seed) for seed in range(60)])


def unlike_house(seed):
    """One of eight places, fourteen roads and five doors, with rooms and lengths of unlike measures."""
    chance = random.Random(seed)
    hidden = chance.sample(range(8), 8)
    roads = []
    for number in range(14):
        low, high = sorted(chance.sample(range(8), 2))
        length = chance.choice((0, int(10 ** (chance.random() * 9)), 2 ** chance.randrange(30), TOP))
        if length > 0 and chance.random() < 0.3:
            low, high = high, low
        roads.append((hidden[low], hidden[high], length, chance.choice((1, int(10 ** (chance.random() * 9)), TOP))))
    doors, sorts = [], {}
    for number in range(5):
        place = chance.randrange(8)
        sort = sorts.setdefault(place, chance.choice(("in", "out")))
        doors.append((sort, place, chance.choice((0, 1, int(10 ** (chance.random() * 9)), TOP))))
    return House(8, roads, doors)


class PlanCase(unittest.TestCase):

    def judge(self, house, order, bell, mosts):
        """A plan through by the bell, of each beginning of which just most gets out."""
        plan = plan_by_order(house, order, bell)
        name = (house.places(), house.roads(), house.doors(), order, bell)
        self.assertIsNone(fault_of_plan(house, plan), name)
        self.assertIsNone(fault_by_bell(house, plan, bell), name)
        loads = [brought(steps) for steps in plan[0]]
        for many in range(len(order) + 1):
            lot = order[:many]
            self.assertEqual(asked_of_lot(house, loads, lot), mosts(lot), name)
        self.assertEqual(corner(house, order, bell), loads, name)
        return plan


def counted(house, bell, count):
    """What counts a lot by the bell, each lot once."""
    known = {}

    def mosts(lot):
        key = tuple(sorted(lot))
        if key not in known:
            known[key] = count(house, list(key), bell)
        return known[key]
    return mosts


class ExampleTest(PlanCase):

    def test_corners(self):
        self.assertEqual(corner(example(), [0, 1, 2, 3], 7), [12, 3, 10, 5])
        self.assertEqual(corner(example(), [1, 0, 3, 2], 7), [10, 5, 12, 3])
        told = corners(example(), 7)
        self.assertEqual(len(told), 18)
        self.assertEqual(told[0], [0, 0, 0, 0])
        self.assertEqual(told, sorted(told))

    def test_plans(self):
        for bell in range(12):
            mosts = counted(example(), bell, most_laid_out)
            for order in all_orders(example()):
                self.judge(example(), order, bell, mosts)

    def test_orders_of(self):
        self.assertEqual(order_of(example(), [12, 3, 10, 5], 7), [0, 1, 2, 3])
        self.assertEqual(order_of(example(), [10, 5, 12, 3], 7), [1, 0, 3, 2])
        self.assertEqual(order_of(example(), [0, 0, 0, 0], 7), [2, 3, 0, 1])
        self.assertIsNone(order_of(example(), [11, 4, 11, 4], 7))


class SmallTest(PlanCase):

    def test_all_orders(self):
        loads = 0
        for number, house in enumerate(small_houses()):
            for bell in ((2, 6, 11) if number % 2 else (1, 4, 8)):
                mosts = counted(house, bell, most_laid_out)
                for order in some_orders(house, number, 24):
                    plan = self.judge(house, order, bell, mosts)
                    loads += sum(brought(steps) for steps in plan[0])
        self.assertGreater(loads, 20000)

    def test_judged_turn_by_turn(self):
        for number, house in enumerate(small_houses()):
            end = 20 + sum(length for _, _, length, _ in house.roads())
            for order in some_orders(house, number, 4):
                self.assertIsNone(fault_turn_by_turn(house, plan_by_order(house, order, 9), end))

    def test_judged_by_the_package(self):
        for number, house in enumerate(small_houses()[::3]):
            for order in some_orders(house, number, 4):
                plan = plan_by_order(house, order, 9)
                self.assertIs(is_plan(house, plan), True)
                self.assertLessEqual(bell_of(house, plan), 9)
                self.assertEqual(brings(house, plan), corner(house, order, 9))

    def test_bells_ahead_of_hours(self):
        """Those of INS, those of OUTS, and both: so OUTS that have no turn at all are opened, too."""
        for seed in range(40):
            house = wide_house(seed)
            for more_in, more_out in ((9, 0), (0, 9), (4, 4), (1, 12)):
                doors = [(sort, place, hour + (more_in if sort == "in" else more_out) * (at % 2))
                         for at, (sort, place, hour) in enumerate(house.doors())]
                other = House(house.places(), house.roads(), doors)
                for bell in (0, 3, 10):
                    mosts = counted(other, bell, most_laid_out)
                    for order in some_orders(other, seed, 6):
                        self.judge(other, order, bell, mosts)

    def test_back_along_a_road_on_which_loads_go(self):
        roads = [(0, 1, 1, 1), (0, 2, 5, 1), (1, 2, 1, 1), (1, 3, 5, 1), (2, 3, 1, 1)]
        for doors in ([("in", 0, 0), ("out", 3, 0)], [("in", 0, 0), ("out", 3, 0), ("out", 2, 0)],
                      [("in", 0, 0), ("in", 1, 0), ("out", 3, 0), ("out", 3, 4)],
                      [("in", 0, 0), ("in", 1, 2), ("out", 3, 0), ("out", 2, 3)]):
            house = House(4, roads, doors)
            for bell in (2, 3, 8, 9, 10, 14, 25):
                mosts = counted(house, bell, most_laid_out)
                for order in all_orders(house):
                    self.judge(house, order, bell, mosts)
        house = House(4, roads, [("in", 0, 0), ("out", 3, 0)])
        self.assertEqual(corner(house, [0, 1], 10), [10, 10])

    def test_roads_of_length_0_side_by_side(self):
        roads = [(0, 1, 0, 1), (0, 1, 0, 2), (1, 2, 0, 1), (1, 2, 3, 4), (0, 2, 0, 1), (2, 3, 0, 3), (2, 3, 0, 3)]
        for doors in ([("in", 0, 0), ("in", 1, 0), ("out", 3, 0), ("out", 2, 1)],
                      [("in", 0, 2), ("out", 3, 0), ("out", 1, 1), ("out", 1, 0)]):
            house = House(4, roads, doors)
            for bell in (0, 1, 2, 5, 8):
                mosts = counted(house, bell, most_laid_out)
                for order in all_orders(house):
                    self.judge(house, order, bell, mosts)

    def test_doors_at_one_place(self):
        """Hours ahead of and behind one another, and just the same."""
        for hours in ((0, 0, 0), (0, 3, 1), (5, 1, 1), (9, 0, 4)):
            doors = [("in", 0, hours[0]), ("in", 0, hours[1]), ("out", 1, hours[1]), ("out", 1, hours[2]),
                     ("in", 0, hours[2])]
            house = House(3, [(0, 1, 2, 2), (0, 2, 1, 1), (2, 1, 2, 3), (1, 0, 1, 1)], doors)
            for bell in (2, 7, 12):
                mosts = counted(house, bell, most_laid_out)
                for order in all_orders(house)[::3]:
                    self.judge(house, order, bell, mosts)

    def test_doors_of_one_sort_alone_and_none(self):
        for doors in ([], [("in", 0, 0), ("in", 1, 2)], [("out", 3, 0), ("out", 4, 0)]):
            house = House(5, H_ROADS, doors)
            none = [0 for _ in doors]
            for order in all_orders(house):
                for bell in (0, 7, 10 ** 12):
                    self.assertEqual(plan_by_order(house, order, bell), ([[] for _ in doors], [[] for _ in H_ROADS]))
                    self.assertEqual(corner(house, order, bell), none)
                    self.assertEqual(corners(house, bell), [none])
                    self.assertEqual(order_of(house, none, bell), list(range(len(doors))))

    def test_no_roads(self):
        house = House(2, [], [("in", 0, 0), ("out", 1, 0)])
        self.assertEqual(plan_by_order(house, [0, 1], 9), ([[], []], []))
        self.assertEqual(corners(house, 9), [[0, 0]])

    def test_one_road(self):
        house = House(2, [(0, 1, 3, 2)], [("in", 0, 4), ("out", 1, 5)])
        self.assertEqual(plan_by_order(house, [0, 1], 14), ([[(4, 2), (7, 0)], [(7, 2), (10, 0)]], [[(4, 2), (7, 0)]]))
        self.assertEqual(plan_by_order(house, [1, 0], 14), ([[], []], [[]]))
        self.assertEqual(plan_by_order(house, [0, 1], 11), ([[], []], [[]]))

    def test_twelve_doors_more(self):
        for seed in range(16):
            house = with_more_doors(busy_house(seed), seed, (1, 1, 2, 4), (0, 1, 3))
            chance = random.Random(seed)
            for bell in (5, 12):
                mosts = counted(house, bell, most_laid_out)
                order = list(range(len(house.doors())))
                chance.shuffle(order)
                plan = self.judge(house, order, bell, mosts)
                self.assertIsNone(fault_turn_by_turn(house, plan, 60))


class FarTest(PlanCase):

    def test_far_houses(self):
        far = ([far_house(seed) for seed in range(40)] + [crossed_house(seed, 10 ** 8 + seed) for seed in range(20)]
               + [unlike_house(seed) for seed in range(50)])
        loads = 0
        for number, house in enumerate(far):
            for bell in (0, TOP, 3 * TOP + 5, 10 ** 12):
                mosts = counted(house, bell, most_by_rings)
                for order in some_orders(house, number, 8):
                    plan = self.judge(house, order, bell, mosts)
                    loads += sum(brought(steps) for steps in plan[0]) > 0
        self.assertGreater(loads, 500)

    def test_as_many_times(self):
        many = 10 ** 8 + 7
        for seed in range(25):
            house = wide_house(seed)
            far = House(house.places(), [(*road[:2], road[2] * many, road[3] * many) for road in house.roads()],
                        [(sort, place, hour * many) for sort, place, hour in house.doors()])
            for order in some_orders(house, seed, 8):
                self.assertEqual(corner(far, order, 9 * many - 1),
                                 [one * many * many for one in corner(house, order, 8)])
                plan = plan_by_order(far, order, 9 * many - 1)
                self.assertIsNone(fault_of_plan(far, plan))
                self.assertEqual([brought(steps) for steps in plan[0]], corner(far, order, 9 * many - 1))

    def test_twelve_doors_more(self):
        for seed in range(25):
            base = far_house(seed) if seed % 2 else unlike_house(seed)
            house = with_more_doors(base, seed, (1, 10 ** 4, TOP, 10 ** 21), (0, 10 ** 5, TOP, 10 ** 12))
            order = list(range(len(house.doors())))
            random.Random(seed).shuffle(order)
            for bell in (2 * TOP, 10 ** 12):
                self.judge(house, order, bell, counted(house, bell, most_by_rings))

    def test_as_soon_however_far_the_bell_is(self):
        for seed in range(100):
            house = unlike_house(seed)
            for order in some_orders(house, seed, 4):
                plan = plan_by_order(house, order, 10 ** 12)
                self.assertLess(max(len(steps) for steps in plan[0] + plan[1]), 100)


class CornerTest(unittest.TestCase):

    def test_differences_of_most(self):
        for number, house in enumerate(small_houses()[::2]):
            for bell in (3, 8):
                mosts = counted(house, bell, most_laid_out)
                for order in some_orders(house, number, 12):
                    expected = [0] * len(order)
                    for at, door in enumerate(order):
                        expected[door] = abs(mosts(order[:at + 1]) - mosts(order[:at]))
                    self.assertEqual(corner(house, order, bell), expected)

    def test_corners_are_wishes_that_are_kept(self):
        for house in small_houses()[::3]:
            mosts = counted(house, 7, most_laid_out)
            for told in corners(house, 7):
                self.assertEqual(asked_of_lot(house, told, list(range(len(told)))), 0)
                for lot in all_lots(house):
                    self.assertLessEqual(asked_of_lot(house, told, lot), mosts(lot))

    def test_neighbours_that_change_places(self):
        for number, house in enumerate(small_houses()[::2]):
            for order in some_orders(house, number, 6):
                told = corner(house, order, 8)
                for at in range(len(order) - 1):
                    other = order[:at] + [order[at + 1], order[at]] + order[at + 2:]
                    changed = [door for door, (one, two) in enumerate(zip(told, corner(house, other, 8))) if one != two]
                    self.assertLessEqual(set(changed), {order[at], order[at + 1]})

    def test_all_corners(self):
        many = 0
        for number, house in enumerate(small_houses()[::2]):
            for bell in (0, 4, 9):
                told = corners(house, bell)
                expected = sorted({tuple(corner(house, order, bell)) for order in all_orders(house)})
                self.assertEqual(told, [list(one) for one in expected])
                many += len(told) > 1
        self.assertGreater(many, 40)

    def test_kinds(self):
        for house in small_houses()[::7]:
            self.assertIs(type(corners(house, 7)), list)
            self.assertTrue(all(type(one) is list for one in corners(house, 7)))
            self.assertTrue(all(type(number) is int for one in corners(house, 7) for number in one))
            judge_unchanged(self, corners, [house, 7])
            for order in some_orders(house, 3, 3):
                judge_unchanged(self, corner, [house, order, 7])
                judge_unchanged(self, plan_by_order, [house, order, 7])
                again = House(house.places(), tupled(house.roads()), listed(house.doors()))
                self.assertEqual(plan_by_order(again, tuple(order), 7), plan_by_order(house, order, 7))
                self.assertEqual(type(plan_by_order(house, order, 7)), tuple)

    def test_later_changes_have_no_effect(self):
        order = [0, 1, 2, 3]
        told = plan_by_order(example(), order, 7), corner(example(), order, 7)
        order.reverse()
        self.assertEqual(told, (plan_by_order(example(), [0, 1, 2, 3], 7), [12, 3, 10, 5]))

    def test_refused(self):
        parameters = [a_house(), an_order(), a_bell()]
        for ask in (plan_by_order, corner):
            judge_refusals(self, ask, parameters)
            judge_names(self, ask, parameters)
        judge_refusals(self, corners, [a_house(), a_bell()])
        judge_names(self, corners, [a_house(), a_bell()])

    def test_orders_of_a_house_without_doors(self):
        house = House(2, [(0, 1, 1, 1)], [])
        for order in ([0], (0,), None, [[]]):
            for ask in (plan_by_order, corner):
                with self.assertRaises(BadOrder) as caught:
                    ask(house, order, 7)
                self.assertIs(caught.exception.order, order)

    def test_defined_in_their_file(self):
        for ask in (plan_by_order, corner, corners, order_of):
            self.assertEqual(ask.__module__, orders.__name__)


class OrderOfTest(unittest.TestCase):

    def test_the_first_of_all_orders(self):
        found = 0
        for house in small_houses()[::2]:
            firsts = {}
            for order in all_orders(house):
                firsts.setdefault(tuple(corner(house, order, 7)), order)
            for wishes, order in firsts.items():
                self.assertEqual(order_of(house, list(wishes), 7), order)
                self.assertEqual(order_of(house, wishes, 7), order)
                for _, _, more in one_load_more(house, wishes):
                    self.assertEqual(order_of(house, more, 7), firsts.get(tuple(more)))
            found += len(firsts)
        self.assertGreater(found, 300)

    def test_wishes_that_are_none(self):
        for house in small_houses()[::3]:
            told = corners(house, 8)
            for one, other in zip(told, told[1:]):
                if all((first + second) % 2 == 0 for first, second in zip(one, other)):
                    mean = [(first + second) // 2 for first, second in zip(one, other)]
                    self.assertEqual(order_of(house, mean, 8) is not None, mean in told)
            sorts = sorts_of(house)
            if "in" in sorts and "out" in sorts:
                wishes = [0] * len(sorts)
                wishes[sorts.index("in")] = wishes[sorts.index("out")] = 10 ** 21
                self.assertIsNone(order_of(house, wishes, 8))

    def test_far(self):
        for seed in range(20):
            house = unlike_house(seed)
            for order in some_orders(house, seed, 4):
                told = corner(house, order, 10 ** 12)
                first = order_of(house, told, 10 ** 12)
                self.assertLessEqual(first, order)
                self.assertEqual(corner(house, first, 10 ** 12), told)
                self.assertIn(told, corners(house, 10 ** 12))

    def test_kinds(self):
        judge_unchanged(self, order_of, [example(), [12, 3, 10, 5], 7])
        self.assertIs(type(order_of(example(), (12, 3, 10, 5), 7)), list)

    def test_refused(self):
        parameters = [a_house(), some_wishes(), a_bell()]
        judge_refusals(self, order_of, parameters)
        judge_names(self, order_of, parameters)


if __name__ == "__main__":
    unittest.main()
