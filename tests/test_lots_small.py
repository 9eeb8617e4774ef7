import unittest

from lastbell.lots import levels, lot_bell, most, most_plan, steady
from tests.counted import most_by_rings, most_laid_out
from tests.judged import fault_of_most_plan, fault_turn_by_turn
from tests.made import all_lots, busy_house, crossed_house, example, small_house, with_more_doors

BELLS = (0, 1, 2, 3, 5, 7, 11)


def houses():
    return ([example()] + [small_house(seed) for seed in range(60)] + [busy_house(seed) for seed in range(25)]
            + [crossed_house(seed) for seed in range(50)])


def after_bell(house, bell):
    return bell + 2 + sum(length for _, _, length, _ in house.roads())


class SmallTest(unittest.TestCase):

    def test_most_is_the_greatest_flow_over_all_turns(self):
        above = 0
        for number, house in enumerate(houses()):
            for at, lot in enumerate(all_lots(house)):
                for bell in (BELLS[(number + at) % 7], BELLS[(number + at + 3) % 7], 12):
                    counted = most_laid_out(house, lot, bell)
                    self.assertEqual(most(house, lot, bell), counted, (number, lot, bell))
                    above += counted > 0
        self.assertGreater(above, 500)

    def test_the_two_ways_of_counting_agree(self):
        for house in houses()[::4]:
            for lot in all_lots(house):
                self.assertEqual(most_by_rings(house, lot, 9), most_laid_out(house, lot, 9))

    def test_plans(self):
        for number, house in enumerate(houses()):
            for lot in all_lots(house):
                for bell in (0, 3, 6, 12):
                    self.judge(house, lot, bell, (number, lot, bell))

    def judge(self, house, lot, bell, name):
        plan = most_plan(house, lot, bell)
        self.assertIsNone(fault_of_most_plan(house, lot, bell, plan, most(house, lot, bell)), name)
        self.assertIsNone(fault_turn_by_turn(house, plan, after_bell(house, bell)), name)

    def test_bells_ahead_of_every_hour(self):
        for seed in range(30):
            house = small_house(seed)
            late = [(sort, place, hour + 9) for sort, place, hour in house.doors()]
            other = type(house)(house.places(), house.roads(), late)
            for lot in all_lots(other):
                for bell in (0, 4, 8, 17):
                    self.assertEqual(most(other, lot, bell), 0)
                self.assertEqual(most(other, lot, 24), most(house, lot, 6))

    def test_houses_with_twelve_doors_more(self):
        for seed in range(12):
            house = with_more_doors(busy_house(seed), seed, (1, 1, 3), (0, 1, 4))
            many = len(house.doors())
            for lot in ([0], list(range(0, many, 2)), list(range(many // 2)), list(range(5, many))):
                for bell in (4, 9):
                    self.assertEqual(most(house, lot, bell), most_laid_out(house, lot, bell), (seed, lot, bell))
                    self.judge(house, lot, bell, (seed, lot, bell))


class LevelsTest(unittest.TestCase):

    def test_levels_make_most_by_every_bell(self):
        for number, house in enumerate(houses()):
            for lot in all_lots(house):
                pairs = levels(house, lot)
                self.assertTrue(all(type(length) is int and length >= 0 for length, _ in pairs))
                self.assertTrue(all(type(amount) is int and amount >= 1 for _, amount in pairs))
                lengths = [length for length, _ in pairs]
                self.assertEqual(lengths, sorted(set(lengths)))
                for bell in [*range(16), 40, 1000]:
                    made = sum(amount * max(0, bell + 1 - length) for length, amount in pairs)
                    self.assertEqual(most(house, lot, bell), made, (number, lot, bell))
                self.assertEqual(steady(house, lot), sum(amount for _, amount in pairs))

    def test_steady_is_what_comes_of_each_turn_at_last(self):
        for house in houses():
            for lot in all_lots(house):
                self.assertEqual(steady(house, lot), most(house, lot, 501) - most(house, lot, 500))


class LotBellTest(unittest.TestCase):

    def test_the_least_bell(self):
        for number, house in enumerate(houses()):
            for lot in all_lots(house):
                self.assertEqual(lot_bell(house, lot, 0), 0)
                for amount in (1, 2, 3, 4, 5, 7, 10, 17, 100, 10 ** 21):
                    self.held(house, lot, amount, (number, lot, amount))

    def held(self, house, lot, amount, name):
        bell = lot_bell(house, lot, amount)
        if bell is None:
            self.assertEqual(steady(house, lot), 0, name)
            return
        self.assertGreaterEqual(most(house, lot, bell), amount, name)
        if bell > 0:
            self.assertLess(most(house, lot, bell - 1), amount, name)

    def test_at_just_most(self):
        for house in houses():
            for lot in all_lots(house):
                for bell in range(1, 14):
                    amount = most(house, lot, bell)
                    if amount > most(house, lot, bell - 1):
                        self.assertEqual(lot_bell(house, lot, amount), bell)
                        self.assertEqual(lot_bell(house, lot, most(house, lot, bell - 1) + 1), bell)


class CrossingTest(unittest.TestCase):

    def test_crossing_lots(self):
        for house in [busy_house(seed) for seed in range(12)] + [crossed_house(seed) for seed in range(12)]:
            for bell in (3, 8):
                mosts = {tuple(lot): most(house, lot, bell) for lot in all_lots(house)}
                for one, one_most in mosts.items():
                    for other, other_most in mosts.items():
                        either = tuple(sorted(set(one) | set(other)))
                        both = tuple(sorted(set(one) & set(other)))
                        self.assertGreaterEqual(one_most + other_most, mosts[either] + mosts[both])

    def test_one_door_more(self):
        for house in houses()[::2]:
            for lot in all_lots(house):
                for door, (sort, _, _) in enumerate(house.doors()):
                    if door not in lot:
                        less, more = most(house, lot, 8), most(house, lot + [door], 8)
                        self.assertTrue(more >= less if sort == "in" else more <= less)

    def test_each_further_bell_brings_no_less_than_the_one_ahead(self):
        for house in houses()[::2]:
            for lot in all_lots(house):
                mosts = [most(house, lot, bell) for bell in range(16)]
                grown = [late - soon for soon, late in zip([0] + mosts, mosts)]
                self.assertEqual(grown, sorted(grown))


if __name__ == "__main__":
    unittest.main()
