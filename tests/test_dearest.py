import random
import unittest
from itertools import permutations, product

from lastbell import dearest as dearest_file
from lastbell.dearest import dearest, dearest_order
from lastbell.errors import BadPrices
from lastbell.houses import House
from lastbell.orders import corner, corners
from lastbell.rows import plan_for
from tests.counted import kept_laid_out, most_by_rings, most_laid_out
from tests.made import H_ROADS, example
from tests.means import TOP, far_houses, limit_house, mean_of_corners, near_houses
from tests.refusals import (Parameter, a_bell, a_house, judge_names, judge_refusals, judge_unchanged, listed, tupled)
from tests.things import deep, no_lists, no_numbers
from tests.wished import shut_houses, sorts_of

PRICES = [0, 0, 3, 5]


def bad_prices():
    """Things that are no list of four integers."""
    things = no_lists() + [[], (), [0], [0, 0, 0], [0, 0, 0, 0, 0], deep(45), [[0, 0, 0, 0]], "0000", list(range(5000))]
    for at in range(4):
        for thing in no_numbers():
            if type(thing) is not int:
                prices = [4, -4, 4, 0]
                prices[at] = thing
                things.append(prices if at % 2 else tuple(prices))
    return things


def some_prices():
    return Parameter("prices", PRICES, bad_prices(), BadPrices)


def made_prices(house, seed):
    """Prices of either sign, alike ones among them."""
    chance = random.Random(seed)
    drawn = chance.choice(((-2, -1, 0, 1, 2), (0, 1), (-10 ** 6, -7, 0, 7, 10 ** 6), (5,), (-5,), (0,)))
    return [chance.choice(drawn) for _ in house.doors()]


def worth(numbers, prices):
    return sum(number * price for number, price in zip(numbers, prices))


def order_by_prices(house, prices):
    """By exchanging neighbours, as long as the one behind is dearer."""
    signed = [price if sort == "in" else 0 - price for price, sort in zip(prices, sorts_of(house))]
    order = list(range(len(prices)))
    for _ in order:
        for at in range(len(order) - 1):
            if signed[order[at]] < signed[order[at + 1]]:
                order[at], order[at + 1] = order[at + 1], order[at]
    return order


class ExampleTest(unittest.TestCase):

    def test_all_numbers(self):
        self.assertEqual(dearest(example(), 7, PRICES), 55)
        self.assertEqual(dearest_order(example(), 7, PRICES), [0, 1, 2, 3])


class DearestTest(unittest.TestCase):

    def judge(self, house, bell, prices):
        order = dearest_order(house, bell, prices)
        self.assertIs(type(order), list)
        self.assertEqual(order, order_by_prices(house, prices))
        told = dearest(house, bell, prices)
        self.assertIs(type(told), int)
        self.assertEqual(told, worth(corner(house, order, bell), prices))
        return told

    def test_against_the_corners_of_all_orders(self):
        kinds = {"below 0": 0, "0": 0, "above": 0}
        for number, house in enumerate(near_houses() + shut_houses()[::6]):
            for seed in range(4):
                prices = made_prices(house, number * 10 + seed)
                told = self.judge(house, 9, prices)
                self.assertEqual(told, max(worth(one, prices) for one in corners(house, 9)))
                kinds["below 0" if told < 0 else "0" if told == 0 else "above"] += 1
        self.assertEqual(kinds["below 0"], 0, "nobody at all is worth 0, and is kept")
        self.assertTrue(kinds["0"] > 40 and kinds["above"] > 40, kinds)

    def test_against_all_kept_wishes_one_by_one(self):
        """By a near bell, in houses in which not much gets through."""
        some = 0
        for number, house in enumerate(near_houses()[::3]):
            doors = range(len(house.doors()))
            wide = [most_laid_out(house, [door], 4) if sorts_of(house)[door] == "in" else
                    most_laid_out(house, [one for one in doors if one != door], 4) for door in doors]
            if max(wide) > 6 or len(wide) > 4:
                continue
            some += 1
            kept = [wishes for wishes in product(*[range(many + 1) for many in wide])
                    if sum(one * (1 if sort == "in" else -1) for one, sort in zip(wishes, sorts_of(house))) == 0
                    and kept_laid_out(house, wishes, 4)]
            for seed in range(12):
                prices = made_prices(house, number * 10 + seed)
                self.assertEqual(self.judge(house, 4, prices), max(worth(wishes, prices) for wishes in kept))
        self.assertGreater(some, 8)

    def test_none_are_dearer(self):
        for number, house in enumerate(near_houses()):
            wishes = mean_of_corners(house, 9, number)
            for seed in range(5):
                prices = made_prices(house, number * 10 + seed)
                if plan_for(house, wishes, 9) is not None:
                    self.assertLessEqual(worth(wishes, prices), self.judge(house, 9, prices))

    def test_far(self):
        for number, house in enumerate(far_houses()[::3] + [limit_house(seed) for seed in range(8)]):
            prices = made_prices(house, number)
            for bell in (2 * TOP, 10 ** 12):
                order = order_by_prices(house, prices)
                mosts = [most_by_rings(house, order[:many], bell) for many in range(len(order) + 1)]
                signed = [prices[door] * (1 if sorts_of(house)[door] == "in" else -1) for door in order] + [0]
                # The sum that [12.2] names: what is asked of each beginning, as often as the price falls behind it.
                total = sum(most * (one - other) for most, one, other in zip(mosts[1:-1], signed, signed[1:]))
                self.assertEqual(self.judge(house, bell, prices), total)

    def test_alike_prices_and_all_0(self):
        for house in near_houses()[::4]:
            many = len(house.doors())
            self.assertEqual(dearest_order(house, 9, [0] * many), list(range(many)))
            self.assertEqual(dearest(house, 9, [0] * many), 0)
            ins = [door for door in range(many) if sorts_of(house)[door] == "in"]
            outs = [door for door in range(many) if sorts_of(house)[door] == "out"]
            self.assertEqual(dearest_order(house, 9, [5] * many), ins + outs)
            self.assertEqual(dearest_order(house, 9, [-5] * many), outs + ins)
            self.assertEqual(dearest(house, 9, [5] * many), 10 * most_laid_out(house, ins, 9))
            self.assertEqual(dearest(house, 9, [-5] * many), 0)

    def test_all_orders_of_prices(self):
        for prices in permutations((-3, -1, 2, 10 ** 6)):
            self.judge(example(), 7, list(prices))
            self.assertEqual(dearest(example(), 7, list(prices)), max(worth(one, prices) for one in corners(example(), 7)))

    def test_doors_of_one_sort_alone_and_none(self):
        for doors in ([], [("in", 0, 0), ("in", 1, 2), ("in", 0, 0)], [("out", 3, 0), ("out", 4, 9)], [("in", 2, 0)]):
            house = House(5, H_ROADS, doors)
            for prices in ([10 ** 6, -7, 3], [-10 ** 6, 5, 5]):
                self.assertEqual(self.judge(house, 9, prices[:len(doors)]), 0)
        self.assertEqual(dearest_order(House(1, [], []), 0, []), [])


class KindsTest(unittest.TestCase):

    def test_kinds_and_sameness(self):
        for number, house in enumerate(near_houses()[::5]):
            again = House(house.places(), tupled(house.roads()), listed(house.doors()))
            prices = made_prices(house, number)
            for ask in (dearest, dearest_order):
                judge_unchanged(self, ask, [house, 9, prices])
                self.assertEqual(ask(again, 9, tuple(prices)), ask(house, 9, prices))

    def test_one_list_changed_in_between(self):
        prices = [0, 0, 3, 5]
        for _ in range(3):
            self.assertEqual(dearest(example(), 7, prices), 55)
            prices[0] = -10
            self.assertEqual(dearest(example(), 7, prices), max(worth(one, prices) for one in corners(example(), 7)))
            prices[0] = 0

    def test_refused(self):
        for ask in (dearest, dearest_order):
            judge_refusals(self, ask, [a_house(), a_bell(), some_prices()])
            judge_names(self, ask, [a_house(), a_bell(), some_prices()])

    def test_prices_may_be_below_0_and_somewhat_beyond(self):
        self.assertEqual(dearest(example(), 7, [10 ** 7, 0, 0, -10 ** 7]), 12 * 10 ** 7 - 10 ** 7 * min(
            one[3] for one in corners(example(), 7) if one[0] == 12))

    def test_defined_in_their_file(self):
        for ask in (dearest, dearest_order):
            self.assertEqual(ask.__module__, dearest_file.__name__)


if __name__ == "__main__":
    unittest.main()
