import random
import unittest

from lastbell import parts
from lastbell.errors import BadHouse, BadParts
from lastbell.houses import House
from lastbell.lots import levels, lot_bell, most, most_plan, steady
from lastbell.moments import is_moments, moments_for, worth
from lastbell.orders import corner, plan_by_order
from lastbell.parts import parted
from lastbell.plans import bell_of, brings, is_plan, on_roads, plan_fault
from lastbell.turned import turned
from tests.counted import most_by_rings, most_laid_out
from tests.judged import brought, fault_by_bell, fault_of_most_plan, fault_of_plan, fault_turn_by_turn
from tests.made import H_DOORS, H_ROADS, busy_house, example
from tests.means import TOP, limit_house, made_order, near_houses
from tests.refusals import Parameter, a_house, judge_names, judge_unchanged, listed, tupled
from tests.things import deep, no_lists, no_numbers


def no_parts():
    """Things that are no part of a house with four doors."""
    things = no_lists() + [[], (), (0,), (0, 1), (0, 1, 0, 0), [0, 1], "010", deep(45), (4, 1, 0), (-1, 1, 0),
                           (0, 0, 0), (0, -1, 0), (0, 1, -1), (10 ** 9, 1, 0), ((0, 1, 0),), [[0, 1, 0]]]
    for thing in no_numbers():
        things += [(thing, 1, 0), [0, thing, 0], (3, 1, thing)]
    return things


def made_parts(house, seed, many=12, rooms=(1, 1, 2, 4), lates=(0, 1, 3)):
    chance = random.Random(seed)
    doors = range(len(house.doors()))
    return [(chance.choice(doors), chance.choice(rooms), chance.choice(lates)) for _ in range(many)]


class PartedTest(unittest.TestCase):

    def test_ins_and_outs(self):
        told = parted(example(), [(0, 1, 0), (3, 7, 10 ** 9), (0, 10 ** 21, 5), (2, 1, 0)])
        self.assertEqual(told, House(
            9, H_ROADS + [(5, 0, 0, 1), (4, 6, 10 ** 9, 7), (7, 0, 5, 10 ** 21), (3, 8, 0, 1)],
            H_DOORS + [("in", 5, 0), ("out", 6, 1), ("in", 7, 0), ("out", 8, 0)]))

    def test_one_by_one(self):
        for number, house in enumerate(near_houses()):
            passed = made_parts(house, number, number % 13, (1, 5, 10 ** 9, 10 ** 12), (0, 3, 10 ** 9, 10 ** 12))
            told = parted(house, passed)
            self.assertIs(type(told), House)
            self.assertEqual(told.places(), house.places() + len(passed))
            self.assertEqual(told.roads()[:len(house.roads())], house.roads())
            self.assertEqual(told.doors()[:len(house.doors())], house.doors())
            self.assertEqual(len(told.roads()), len(house.roads()) + len(passed))
            self.assertEqual(len(told.doors()), len(house.doors()) + len(passed))
            for at, (door, room, late) in enumerate(passed):
                sort, place, hour = house.doors()[door]
                new = house.places() + at
                ends = (new, place) if sort == "in" else (place, new)
                self.assertEqual(told.doors()[len(house.doors()) + at], (sort, new, hour))
                self.assertEqual(told.roads()[len(house.roads()) + at], (*ends, late, room))
            self.assertTrue(all(type(one) is tuple for one in told.roads() + told.doors()))

    def test_no_parts(self):
        for house in near_houses()[::5] + [House(1, [], [])]:
            self.assertEqual(parted(house, []), house)
            self.assertEqual(parted(house, ()), house)

    def test_parts_of_a_parted_house(self):
        for number, house in enumerate(near_houses()[::3]):
            some = made_parts(house, number, 4)
            once = parted(house, some)
            more = made_parts(once, number + 1, 4)
            twice = parted(once, more)
            self.assertEqual(twice, parted(parted(once, more[:1]), more[1:]))
            # All of them are once again doors that may be parted, the new ones, too.
            last = len(twice.doors()) - 1
            again = parted(twice, [(last, 2, 1)])
            sort, place, hour = twice.doors()[last]
            self.assertEqual(again.doors()[-1], (sort, twice.places(), hour))
            self.assertIn(place, again.roads()[-1][:2])
        with self.assertRaises(BadParts):
            parted(example(), [(0, 1, 0), (4, 1, 0)])
        self.assertEqual(parted(parted(example(), [(0, 1, 0)]), [(4, 1, 0)]).doors()[-1], ("in", 6, 0))

    def test_turned_and_parted_are_parted_and_turned(self):
        for number, house in enumerate(near_houses()[::3]):
            some = made_parts(house, number, 5)
            self.assertEqual(turned(parted(house, some)), parted(turned(house), some))

    def test_wrong_parts(self):
        right = [(0, 1, 0), [3, 10 ** 9, 10 ** 9], (2, 1, 5)]
        for thing in no_parts():
            for at in range(4):
                passed = right[:at] + [thing] + right[at:]
                for told in (passed, tuple(passed), passed + no_parts()):
                    with self.assertRaises(BadParts) as caught:
                        parted(example(), told)
                    self.assertEqual(caught.exception.index, at, told)
                    self.assertIs(type(caught.exception.index), int)

    def test_no_list(self):
        for thing in no_lists():
            for call in (lambda: parted(example(), thing), lambda: parted(parts=thing, house=example())):
                with self.assertRaises(BadParts) as caught:
                    call()
                self.assertEqual(caught.exception.index, 0)

    def test_no_door_no_part(self):
        house = House(2, [(0, 1, 1, 1)], [])
        with self.assertRaises(BadParts) as caught:
            parted(house, [(0, 1, 0)])
        self.assertEqual(caught.exception.index, 0)

    def test_no_house(self):
        for thing in a_house().wrong:
            for others in ([], None, [None], [(0, 1, 0)]):
                for call in (lambda: parted(thing, others), lambda: parted(parts=others, house=thing)):
                    with self.assertRaises(BadHouse) as caught:
                        call()
                    self.assertIs(caught.exception.thing, thing)

    def test_kinds(self):
        passed = [(0, 1, 0), (2, 3, 4), (0, 5, 6)]
        judge_names(self, parted, [a_house(), Parameter("parts", passed)])
        judge_unchanged(self, parted, [example(), passed])
        self.assertEqual(parted(example(), tupled(passed)), parted(example(), listed(passed)))
        told = parted(example(), passed)
        passed.append((0, 9, 9))
        self.assertEqual(len(told.doors()), 7)
        told.doors().clear()
        self.assertEqual(len(told.doors()), 7)
        self.assertEqual(parted.__module__, parts.__name__)


class ParallelTest(unittest.TestCase):
    """What parts are to their door, by what gets through."""

    def test_a_wide_part_that_is_not_late_is_as_good_as_its_door(self):
        for number, house in enumerate(near_houses()[::4]):
            many = len(house.doors())
            for door in range(many):
                told = parted(house, [(door, 100, 0)])
                for lot in ([], [0], [many - 1], list(range(0, many, 2))):
                    rest = [one for one in lot if one != door]
                    if house.doors()[door][0] == "in":
                        self.assertEqual(most(told, rest + [many], 7), most(house, rest + [door], 7))
                    else:
                        self.assertEqual(most(told, rest + [door], 7), most(house, rest, 7))

    def test_a_late_part_is_a_later_door(self):
        for number, house in enumerate(near_houses()[::4]):
            for door, (sort, place, hour) in enumerate(house.doors()):
                doors = list(house.doors())
                doors[door] = (sort, place, hour + 2)
                later = House(house.places(), house.roads(), doors)
                told = parted(house, [(door, 100, 2)])
                new = len(doors)
                for lot in (list(range(new)), [0, new - 1], []):
                    others = [one for one in lot if one != door]
                    if sort == "in":
                        self.assertEqual(most(told, others + [new], 8), most(later, others + [door], 8))
                    else:
                        self.assertEqual(most(told, others + [door], 8), most(later, others, 8))


class GreatHousesTest(unittest.TestCase):
    """[4] to [6], plans by orders and corners, of houses with twelve parts."""

    def judge(self, house, lot, bell, count):
        amount = count(house, lot, bell)
        self.assertEqual(most(house, lot, bell), amount)
        plan = most_plan(house, lot, bell)
        self.assertIsNone(fault_of_most_plan(house, lot, bell, plan, amount))
        self.assertTrue(is_plan(house, plan))
        self.assertIsNone(plan_fault(house, plan))
        self.assertLessEqual(bell_of(house, plan), bell)
        self.assertEqual(sum(brings(house, plan)), 2 * amount)
        if amount:
            self.assertEqual(sum(on_roads(house, plan, bell)), 0)
        pairs = levels(house, lot)
        self.assertEqual(sum(many * max(0, bell + 1 - length) for length, many in pairs), amount)
        self.assertEqual(steady(house, lot), sum(many for _, many in pairs))
        soonest = lot_bell(house, lot, amount)
        self.assertLessEqual(soonest, bell)
        self.assertEqual(count(house, lot, soonest), amount)
        if soonest:
            self.assertLess(count(house, lot, soonest - 1), amount)
        moments = moments_for(house, lot, bell)
        self.assertTrue(is_moments(house, lot, bell, moments))
        self.assertEqual(worth(house, moments), amount)
        return amount

    def test_small(self):
        some = 0
        for seed in range(25):
            house = parted(busy_house(seed), made_parts(busy_house(seed), seed))
            chance = random.Random(seed)
            doors = list(range(len(house.doors())))
            for bell in (6, 11):
                some += self.judge(house, chance.sample(doors, len(doors) // 2), bell, most_laid_out) > 0
        self.assertGreater(some, 20)

    def test_far(self):
        some = 0
        for seed in range(25):
            base = limit_house(seed)
            lates = (0, 1, TOP // 3, TOP)
            house = parted(base, made_parts(base, seed, 12, (1, TOP // 7, TOP), lates))
            chance = random.Random(seed)
            doors = list(range(len(house.doors())))
            for bell in (3 * TOP, 10 ** 12):
                some += self.judge(house, chance.sample(doors, 9), bell, most_by_rings) > 0
                some += self.judge(house, doors[5:], bell, most_by_rings) > 0
        self.assertGreater(some, 60)

    def test_plans_by_orders(self):
        for seed in range(30):
            base = limit_house(seed) if seed % 2 else busy_house(seed)
            rooms = (1, TOP // 9, TOP) if seed % 2 else (1, 2, 3)
            house = parted(base, made_parts(base, seed, 12, rooms, (0, 1, 2, TOP // 3) if seed % 2 else (0, 1, 2, 5)))
            count = most_by_rings if seed % 2 else most_laid_out
            order = made_order(house, random.Random(seed))
            bell = 10 ** 12 if seed % 2 else 11
            plan = plan_by_order(house, order, bell)
            self.assertIsNone(fault_of_plan(house, plan))
            self.assertIsNone(fault_by_bell(house, plan, bell))
            if seed % 2 == 0:
                self.assertIsNone(fault_turn_by_turn(house, plan, 40))
            told = corner(house, order, bell)
            self.assertEqual([brought(steps) for steps in plan[0]], told)
            mosts = [count(house, order[:many], bell) for many in range(len(order) + 1)]
            self.assertEqual([told[door] for door in order],
                             [abs(soon - late) for soon, late in zip(mosts, mosts[1:])])


if __name__ == "__main__":
    unittest.main()
