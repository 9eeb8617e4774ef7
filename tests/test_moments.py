import unittest

from lastbell import moments as module
from lastbell.errors import BadMoments
from lastbell.houses import House
from lastbell.lots import most
from lastbell.moments import is_moments, moments_for, worth
from tests.counted import most_by_rings
from tests.made import all_lots, busy_house, crossed_house, example, far_house, small_house, with_more_doors
from tests.refusals import (Parameter, a_bell, a_house, a_lot, a_thing, judge_names, judge_refusals, judge_unchanged,
                            listed, tupled)
from tests.things import a_function, deep, example_house, no_lists, no_numbers

FAR_BELLS = (0, 10 ** 9, 2 * 10 ** 9 + 3, 10 ** 12)


def no_lists_of_five():
    """Things that are no list of five numbers."""
    things = no_lists() + [[], (), [0], [0] * 4, [0] * 6, (1,) * 4, "00000", deep(45), [[0] * 5], [0] * 5000,
                           {0: 0, 1: 0, 2: 0, 3: 0, 4: 0}, [[0]] * 5, [a_function] * 5, [example_house()] * 5]
    for at in range(5):
        for thing in no_numbers():
            moments = [0, 1, 5, 8, 7]
            moments[at] = thing
            things.append(moments if at % 2 else tuple(moments))
    return things


def houses():
    return ([example()] + [small_house(seed) for seed in range(50)] + [busy_house(seed) for seed in range(40)]
            + [crossed_house(seed) for seed in range(40)] + walled_houses())


def walled_houses():
    """Ones in which some place is never reached, or reached far behind every bell, or all roads begin at one IN."""
    return [
        House(4, [(0, 1, 2, 3), (2, 1, 1, 1), (1, 3, 90, 2)], [("in", 0, 1), ("out", 1, 4), ("out", 3, 2)]),
        House(3, [(0, 1, 0, 2), (0, 2, 1, 3)], [("in", 0, 2), ("out", 1, 1), ("out", 2, 5)]),
        House(3, [(0, 1, 0, 2), (0, 2, 1, 3)], [("in", 0, 20), ("in", 0, 2), ("out", 1, 1), ("out", 2, 30)]),
        House(2, [], [("in", 0, 3), ("out", 1, 2)]),
        House(5, [(0, 1, 4, 1), (1, 2, 30, 1), (2, 3, 1, 1), (3, 1, 1, 1)], [("in", 0, 0), ("out", 1, 3), ("out", 3, 0)]),
        House(3, [(2, 0, 1, 4), (0, 1, 1, 1), (1, 2, 1, 1)], [("in", 0, 1), ("in", 1, 0), ("out", 2, 1)]),
    ]


def are_moments(house, lot, bell, moments):
    """Judged anew."""
    for door, (sort, place, hour) in enumerate(house.doors()):
        if sort == "in" and door in lot and not moments[place] <= hour:
            return False
        if sort == "out" and door not in lot and not moments[place] > bell - hour:
            return False
    return True


def own_worth(house, moments):
    total = 0
    for begin, end, length, room in house.roads():
        for_turns = moments[end] - moments[begin] - length
        if for_turns > 0:
            total += for_turns * room
    return total


class ExampleTest(unittest.TestCase):

    def test_worth(self):
        self.assertEqual(worth(example(), [0, 1, 5, 8, 7]), 15)
        self.assertIs(is_moments(example(), [0, 1], 7, [0, 1, 5, 8, 7]), True)
        self.assertEqual([worth(example(), moments) for moments in
                          ([0, 9, 5, 5, 5], [3, 0, 5, 5, 5], [5, 5, 5, 8, 5], [0, 0, 0, 0, 6])], [8, 5, 4, 5])

    def test_moments_for(self):
        moments = moments_for(example(), [0, 1], 7)
        self.assertEqual(worth(example(), moments), 15)
        self.assertIs(is_moments(example(), [0, 1], 7, moments), True)


class IsMomentsTest(unittest.TestCase):

    def test_no_moments(self):
        for thing in no_lists_of_five():
            for lot in ([], [0, 1], [2, 3], [0, 1, 2, 3]):
                self.assertIs(is_moments(example(), lot, 7, thing), False, thing)

    def test_one_place_sooner_and_later(self):
        """Of H by 7 the first two must be at most 0 and 1, the last two above 7 and 6."""
        right = [0, 1, 5, 8, 7]
        for at, least, greatest in ((0, 0, 0), (1, 0, 1), (2, 0, None), (3, 8, None), (4, 7, None)):
            for moment in (0, 1, 2, 6, 7, 8, 9, 10 ** 12, 2 * 10 ** 12):
                moments = right[:at] + [moment] + right[at + 1:]
                told = least <= moment and (greatest is None or moment <= greatest)
                for form in (moments, tuple(moments)):
                    self.assertIs(is_moments(example(), [0, 1], 7, form), told, (at, moment))
                    self.assertIs(is_moments(example(), [1, 0], 7, form), told, (at, moment))

    def test_only_these_doors_are_looked_at(self):
        self.assertIs(is_moments(example(), [], 7, [9, 9, 0, 8, 7]), True)
        self.assertIs(is_moments(example(), [], 7, [9, 9, 0, 7, 7]), False)
        self.assertIs(is_moments(example(), [0, 1, 2, 3], 7, [0, 1, 0, 0, 0]), True)
        self.assertIs(is_moments(example(), [0, 1, 2, 3], 7, [0, 2, 0, 0, 0]), False)
        self.assertIs(is_moments(example(), [0, 2], 7, [0, 9, 0, 0, 7]), True)
        self.assertIs(is_moments(example(), [0, 2], 7, [0, 9, 0, 0, 6]), False)
        self.assertIs(is_moments(example(), [2, 3], 7, [9, 9, 9, 0, 0]), True)

    def test_bells_ahead_of_an_hour(self):
        house = House(3, [(0, 1, 1, 1)], [("in", 0, 4), ("out", 1, 6), ("out", 1, 2), ("out", 2, 5)])
        for bell, lot, moments, told in ((3, [0], [4, 2, 0], True), (3, [0], [4, 1, 0], False), (0, [0], [4, 0, 0], True),
                                         (5, [0], [4, 4, 1], True), (5, [0], [4, 4, 0], False),
                                         (6, [0, 2], [0, 1, 2], True), (6, [0, 2], [0, 0, 2], False),
                                         (5, [0, 2], [0, 0, 1], True), (6, [0, 1], [0, 4, 2], False),
                                         (6, [0, 1], [0, 5, 2], True)):
            self.assertIs(is_moments(house, lot, bell, moments), told, (bell, lot, moments))

    def test_doors_at_one_place(self):
        house = House(2, [(0, 1, 1, 1)], [("in", 0, 4), ("in", 0, 2), ("out", 1, 0)])
        for lot, at_most in (([0], 4), ([1], 2), ([0, 1], 2), ([2], 99)):
            self.assertIs(is_moments(house, lot, 3, [at_most, 4]), True)
            self.assertIs(is_moments(house, lot, 3, [at_most + 1, 4]), lot == [2])

    def test_judged_anew(self):
        right = 0
        for number, house in enumerate(houses()):
            for lot in all_lots(house):
                for seed in range(4):
                    moments = [(number * 7 + seed * 5 + at * at * (seed + 3)) % 11 for at in range(house.places())]
                    for bell in (2, 5, 8):
                        told = are_moments(house, lot, bell, moments)
                        self.assertIs(is_moments(house, lot, bell, moments), told)
                        right += told
        self.assertGreater(right, 100)

    def test_refused(self):
        parameters = [a_house(), a_lot(), a_bell(), a_thing()]
        judge_refusals(self, is_moments, parameters)
        judge_names(self, is_moments, parameters)
        judge_names(self, is_moments, [*parameters[:3], Parameter("thing", [0, 1, 5, 8, 7])])
        judge_unchanged(self, is_moments, [example(), [1, 0], 7, [0, 1, 5, 8, 7]])


class WorthTest(unittest.TestCase):

    def test_its_own_sum(self):
        for number, house in enumerate(houses() + [far_house(seed) for seed in range(20)]):
            for seed in range(12):
                far = 10 ** 9 if seed % 3 == 0 else 1
                moments = [(number * 3 + seed * 5 + at * (at + seed)) % 17 * far + at for at in range(house.places())]
                self.assertEqual(worth(house, moments), own_worth(house, moments))
                self.assertEqual(worth(house, tuple(moments)), own_worth(house, moments))

    def test_far(self):
        house = House(2, [(0, 1, 10 ** 9, 10 ** 9), (1, 0, 5, 7)], [])
        self.assertEqual(worth(house, [0, 2 * 10 ** 12]), 10 ** 9 * (2 * 10 ** 12 - 10 ** 9))
        self.assertEqual(worth(house, [2 * 10 ** 12, 0]), 7 * (2 * 10 ** 12 - 5))
        self.assertEqual(worth(house, [0, 10 ** 9]), 0)
        self.assertEqual(worth(house, [0, 10 ** 9 + 1]), 10 ** 9)

    def test_houses_without_roads(self):
        self.assertEqual(worth(House(1, [], []), [5]), 0)
        self.assertEqual(worth(House(3, [], []), (0, 9, 5)), 0)

    def test_refused(self):
        parameters = [a_house(), Parameter("moments", [0, 1, 5, 8, 7], no_lists_of_five(), BadMoments)]
        judge_refusals(self, worth, parameters)
        judge_names(self, worth, parameters)
        judge_unchanged(self, worth, [example(), [0, 1, 5, 8, 7]])

    def test_the_very_object_also_when_it_grows(self):
        moments = [0, 1]
        with self.assertRaises(BadMoments) as caught:
            worth(example(), moments)
        moments.append(9)
        self.assertEqual(caught.exception.moments, [0, 1, 9])


class MomentsForTest(unittest.TestCase):

    def judge(self, house, lot, bell, amount):
        moments = moments_for(house, lot, bell)
        self.assertIs(type(moments), list)
        self.assertEqual(len(moments), house.places())
        self.assertTrue(all(type(one) is int and one >= 0 for one in moments))
        self.assertTrue(are_moments(house, lot, bell, moments), (house.roads(), house.doors(), lot, bell, moments))
        self.assertIs(is_moments(house, lot, bell, moments), True)
        self.assertEqual(own_worth(house, moments), amount, (house.roads(), house.doors(), lot, bell, moments))

    def test_small_houses(self):
        for house in houses():
            for lot in all_lots(house):
                for bell in (0, 1, 3, 6, 12, 40):
                    self.judge(house, lot, bell, most(house, lot, bell))

    def test_far_houses(self):
        far = [far_house(seed) for seed in range(30)] + [crossed_house(seed, 10 ** 8 + seed) for seed in range(20)]
        for house in far:
            for lot in all_lots(house):
                for bell in FAR_BELLS:
                    self.judge(house, lot, bell, most_by_rings(house, lot, bell))

    def test_houses_with_twelve_doors_more(self):
        for seed in range(10):
            house = with_more_doors(busy_house(seed), seed, (1, 2, 5), (0, 1, 4))
            far = with_more_doors(far_house(seed), seed, (1, 10 ** 9, 10 ** 21), (0, 10 ** 9, 10 ** 12))
            for at in range(4):
                for one, bells in ((house, (4, 15)), (far, FAR_BELLS)):
                    lot = list(range(at, len(one.doors()), at + 1))
                    for bell in bells:
                        self.judge(one, lot, bell, most(one, lot, bell))

    def test_bells_ahead_of_hours(self):
        for seed in range(20):
            house = busy_house(seed)
            late = House(house.places(), house.roads(), [(*door[:2], door[2] + 9) for door in house.doors()])
            for lot in all_lots(late):
                for bell in (0, 4, 8, 17, 20):
                    self.judge(late, lot, bell, most(late, lot, bell))

    def test_no_plan_brings_more_than_moments_are_worth(self):
        for house in houses()[::3]:
            for lot in all_lots(house):
                for other in (2, 7):
                    moments = moments_for(house, lot, other)
                    for bell in range(9):
                        if are_moments(house, lot, bell, moments):
                            self.assertLessEqual(most(house, lot, bell), worth(house, moments))

    def test_same_for_what_means_the_same(self):
        for house in houses()[::5]:
            again = House(house.places(), tupled(house.roads()), listed(house.doors()))
            for lot in all_lots(house)[-7:]:
                told = moments_for(house, lot, 7)
                for form in (lot[::-1], tuple(lot), tuple(lot[::-1]), lot[1:] + lot[:1]):
                    self.assertEqual(moments_for(again, form, 7), told)

    def test_refused(self):
        parameters = [a_house(), a_lot(), a_bell()]
        judge_refusals(self, moments_for, parameters)
        judge_names(self, moments_for, parameters)
        judge_unchanged(self, moments_for, [example(), [1, 0], 7])

    def test_defined_in_their_file(self):
        for ask in (is_moments, worth, moments_for):
            self.assertEqual(ask.__module__, module.__name__)


if __name__ == "__main__":
    unittest.main()
