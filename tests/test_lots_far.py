import unittest

from lastbell.houses import House
from lastbell.lots import levels, lot_bell, most, most_plan, steady
from tests.counted import most_by_rings
from tests.judged import fault_of_most_plan
from tests.made import all_lots, busy_house, crossed_house, far_house, small_house, with_more_doors

FAR_BELLS = (0, 10 ** 9 - 1, 10 ** 9, 2 * 10 ** 9 + 3, 5 * 10 ** 9, 10 ** 12)


def far_houses():
    return [far_house(seed) for seed in range(25)] + [crossed_house(seed, 10 ** 8 + seed) for seed in range(15)]


def times(house, many, rooms):
    """The house with all lengths and hours so many times as great, and all rooms."""
    return House(house.places(),
                 [(begin, end, length * many, room * rooms) for begin, end, length, room in house.roads()],
                 [(sort, place, hour * many) for sort, place, hour in house.doors()])


class FarTest(unittest.TestCase):

    def test_most_counted_by_rings(self):
        above = 0
        for number, house in enumerate(far_houses()):
            for lot in all_lots(house):
                for bell in FAR_BELLS:
                    counted = most_by_rings(house, lot, bell)
                    self.assertEqual(most(house, lot, bell), counted, (number, lot, bell))
                    above += counted > 0
        self.assertGreater(above, 200)

    def test_as_many_times(self):
        many = 10 ** 8 + 7
        for seed in range(25):
            house = small_house(seed)
            far = times(house, many, 10 ** 8)
            for lot in all_lots(house):
                for bell in (0, 3, 8, 30):
                    self.assertEqual(most(far, lot, (bell + 1) * many - 1), most(house, lot, bell) * many * 10 ** 8)
                self.assertEqual(levels(far, lot),
                                 [(length * many, amount * 10 ** 8) for length, amount in levels(house, lot)])

    def test_plans(self):
        for number, house in enumerate(far_houses()):
            for lot in all_lots(house):
                for bell in FAR_BELLS[1:]:
                    self.judge(house, lot, bell, (number, lot, bell))

    def judge(self, house, lot, bell, name):
        plan = most_plan(house, lot, bell)
        self.assertIsNone(fault_of_most_plan(house, lot, bell, plan, most(house, lot, bell)), name)

    def test_levels_and_bells(self):
        for number, house in enumerate(far_houses()):
            for lot in all_lots(house):
                pairs = levels(house, lot)
                for bell in FAR_BELLS:
                    made = sum(amount * max(0, bell + 1 - length) for length, amount in pairs)
                    self.assertEqual(most(house, lot, bell), made)
                self.assertEqual(steady(house, lot), sum(amount for _, amount in pairs))
                for amount in (1, 10 ** 9, 10 ** 18 + 1, 2 * 10 ** 21):
                    bell = lot_bell(house, lot, amount)
                    if pairs:
                        self.assertGreaterEqual(most(house, lot, bell), amount, (number, lot, amount))
                        self.assertTrue(bell == 0 or most(house, lot, bell - 1) < amount, (number, lot, amount))
                    else:
                        self.assertIsNone(bell)

    def test_twelve_doors_more(self):
        for seed in range(6):
            house = with_more_doors(far_house(seed), seed, (1, 10 ** 9, 10 ** 21), (0, 10 ** 9, 10 ** 12))
            many = len(house.doors())
            for lot in ([0], list(range(0, many, 2)), list(range(many // 2)), list(range(5, many))):
                for bell in (10 ** 9, 10 ** 12):
                    self.assertEqual(most(house, lot, bell), most_by_rings(house, lot, bell), (seed, lot, bell))
                    self.judge(house, lot, bell, (seed, lot, bell))
                pairs = levels(house, lot)
                made = sum(amount * max(0, 10 ** 12 + 1 - length) for length, amount in pairs)
                self.assertEqual(most(house, lot, 10 ** 12), made)

    def test_one_far_road(self):
        top = 10 ** 9
        house = House(2, [(0, 1, top, top)], [("in", 0, top), ("out", 1, top)])
        self.assertEqual(levels(house, [0]), [(3 * top, top)])
        self.assertEqual(most(house, [0], 3 * top - 1), 0)
        self.assertEqual(most(house, [0], 3 * top), top)
        self.assertEqual(most(house, [0], 10 ** 12), top * (10 ** 12 + 1 - 3 * top))
        self.assertEqual(lot_bell(house, [0], top), 3 * top)
        self.assertEqual(lot_bell(house, [0], top + 1), 3 * top + 1)
        plan = most_plan(house, [0], 10 ** 12)
        self.assertEqual(plan, ([[(top, top), (10 ** 12 - 2 * top + 1, 0)], [(2 * top, top), (10 ** 12 - top + 1, 0)]],
                                [[(top, top), (10 ** 12 - 2 * top + 1, 0)]]))


class SoonTest(unittest.TestCase):
    """Wide ways beside narrow ones, and many calls: what is asked does not take longer with the rooms."""

    def test_wide_ways_beside_narrow_ones_of_one_length(self):
        top = 10 ** 9
        roads = [(0, 1, 1, top), (0, 2, 1, top), (1, 2, 0, 1), (1, 3, 1, top), (2, 3, 1, top)]
        for order in (roads, roads[::-1], roads[2:] + roads[:2], roads[1:] + roads[:1]):
            house = House(4, order, [("in", 0, 0), ("out", 3, 0)])
            self.assertEqual(levels(house, [0]), [(2, 2 * top)])
            self.assertEqual(most(house, [0], 10 ** 12), 2 * top * (10 ** 12 - 1))

    def test_many_narrow_roads_that_take_no_turn(self):
        top = 10 ** 9
        roads = []
        for low in range(1, 7):
            roads.extend([(0, low, 0, top), (low, 7, 0, top)])
        roads.extend([(low, low + 1, 0, 1) for low in (1, 5)])
        house = House(8, roads, [("in", 0, 0), ("out", 7, 0)])
        self.assertEqual(levels(house, [0]), [(0, 6 * top)])

    def test_many_calls_one_behind_another(self):
        for seed in range(40):
            house = with_more_doors(busy_house(seed), seed, (1, 5, 10 ** 21), (0, 3, 10 ** 12))
            lots = [list(range(at, len(house.doors()), 3)) for at in range(3)]
            for lot in lots:
                pairs = levels(house, lot)
                for bell in range(0, 10 ** 12, 10 ** 11):
                    made = sum(amount * max(0, bell + 1 - length) for length, amount in pairs)
                    self.assertEqual(most(house, lot, bell), made)


if __name__ == "__main__":
    unittest.main()
