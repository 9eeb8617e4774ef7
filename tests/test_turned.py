import random
import unittest

from lastbell import turned as turned_file
from lastbell.bells import least_bell
from lastbell.errors import BadBell, BadHouse, BadPlan
from lastbell.houses import House
from lastbell.kept import is_plan_for, lot_for
from lastbell.lots import levels, most, most_plan
from lastbell.orders import plan_by_order
from lastbell.parts import parted
from lastbell.plans import bell_of, is_plan
from lastbell.rows import plan_for
from lastbell.turned import turned, turned_plan
from tests.counted import most_by_rings, most_laid_out
from tests.judged import brought, fault_by_bell, fault_of_plan, rate
from tests.made import H_DOORS, H_ROADS, all_lots, busy_house, crossed_house, example, far_house, small_house
from tests.means import TOP, far_houses, limit_house, made_order, mean_of_corners, near_houses
from tests.refusals import Parameter, a_bell, a_house, judge_names, judge_refusals, judge_unchanged, listed, tupled
from tests.streams import made_streams
from tests.test_parts import made_parts
from tests.test_plans import DOORS, ROADS, bent, no_forms
from tests.things import no_numbers
from tests.wished import kept_wishes, made_wishes, shut_houses


def houses():
    found = near_houses() + shut_houses()[::5] + far_houses()[::4]
    return found + [House(1, [], []), House(3, [(0, 1, 0, 1), (1, 2, 0, 1), (0, 2, 0, 5)], [("in", 0, 7)]),
                    House(2, [(0, 1, 0, 1)], [])]


def some_plans():
    """Triples of a house, a plan of it, and the bell by which it is through."""
    found = []
    for number, house in enumerate([busy_house(seed) for seed in range(30)] + [crossed_house(seed) for seed in range(15)]
                                   + [small_house(seed) for seed in range(30)]):
        streams = made_streams(house, number, 1 + number % 6)
        found.append((streams.house, streams.plan(), streams.bell()))
    for number, house in enumerate(near_houses()[::3]):
        found.append((house, plan_by_order(house, made_order(house, random.Random(number)), 9), None))
        found.append((house, most_plan(house, [0], 9), None))
    return [(house, plan, bell_of(house, plan)) for house, plan, _ in found]


def far_plans():
    found = []
    for number, house in enumerate(far_houses()[::2]):
        bell = (3 * TOP, 10 ** 12)[number % 2]
        plan = plan_by_order(house, made_order(house, random.Random(number)), bell)
        found.append((house, plan, bell))
    return found


class TurnedTest(unittest.TestCase):

    def test_example(self):
        self.assertEqual(turned(example()), House(
            5, [(2, 0, 1, 2), (2, 1, 2, 1), (3, 2, 1, 2), (4, 2, 2, 1), (4, 1, 5, 1)],
            [("out", 0, 0), ("out", 1, 1), ("in", 3, 0), ("in", 4, 1)]))

    def test_road_by_road_and_door_by_door(self):
        for house in houses():
            told = turned(house)
            self.assertIs(type(told), House)
            self.assertEqual(told.places(), house.places())
            self.assertEqual(told.roads(), [(end, begin, length, room) for begin, end, length, room in house.roads()])
            self.assertEqual(told.doors(), [({"in": "out", "out": "in"}[sort], place, hour)
                                            for sort, place, hour in house.doors()])
            self.assertEqual(turned(told), house)

    def test_parted_houses(self):
        for number, house in enumerate(near_houses()[::4]):
            told = parted(house, made_parts(house, number))
            self.assertEqual(turned(turned(told)), told)
            lot = random.Random(number).sample(range(len(told.doors())), len(told.doors()) // 2)
            others = [door for door in range(len(told.doors())) if door not in lot]
            self.assertEqual(levels(turned(told), others), levels(told, lot))

    def test_most_of_a_lot_is_that_of_all_other_doors(self):
        some = 0
        for house in houses():
            about = turned(house)
            for lot in all_lots(house):
                others = [door for door in range(len(house.doors())) if door not in lot]
                self.assertEqual(levels(about, others), levels(house, lot))
                for bell in (0, 7, TOP * 3):
                    self.assertEqual(most(about, others, bell), most(house, lot, bell))
                    some += most(house, lot, bell) > 0
        self.assertGreater(some, 300)

    def test_most_counted(self):
        for house in near_houses()[::5]:
            for lot in all_lots(house):
                others = [door for door in range(len(house.doors())) if door not in lot]
                self.assertEqual(most(turned(house), others, 8), most_laid_out(house, lot, 8))
        for house in far_houses()[::8]:
            for lot in all_lots(house):
                others = [door for door in range(len(house.doors())) if door not in lot]
                self.assertEqual(most(turned(house), others, 5 * TOP), most_by_rings(house, lot, 5 * TOP))

    def test_wishes_are_kept_by_the_same_bells(self):
        told = {"kept": 0, "not": 0}
        for number, house in enumerate(near_houses() + shut_houses()[::5]):
            wishes = made_wishes(house, number)
            bell = least_bell(house, wishes)
            self.assertEqual(least_bell(turned(house), wishes), bell)
            for some in (mean_of_corners(house, 8, number), wishes):
                kept = lot_for(house, some, 8) is None
                told["kept" if kept else "not"] += 1
                self.assertEqual(lot_for(turned(house), some, 8) is None, kept)
                self.assertEqual(plan_for(turned(house), some, 8) is not None, kept)
        self.assertTrue(min(told.values()) > 20, told)

    def test_refused(self):
        judge_refusals(self, turned, [a_house()])
        judge_names(self, turned, [a_house()])
        judge_unchanged(self, turned, [example()])
        house = example()
        turned(house).roads().clear()
        self.assertEqual(house, example())
        self.assertEqual(turned(House(5, tupled(H_ROADS), listed(H_DOORS))), turned(house))


class TurnedPlanTest(unittest.TestCase):

    def judge(self, house, plan, bell):
        told = turned_plan(house, plan, bell)
        about = turned(house)
        name = (house.places(), house.roads(), house.doors(), plan, bell)
        self.assertIsNone(fault_of_plan(about, told), name)
        self.assertIsNone(fault_by_bell(about, told, bell), name)
        self.assertTrue(is_plan(about, told))
        self.assertEqual([brought(steps) for steps in told[0]], [brought(steps) for steps in plan[0]], name)
        self.assertEqual(turned_plan(about, told, bell), tupled_steps(plan), name)
        return told

    def test_example(self):
        told = self.judge(example(), (DOORS, ROADS), 4)
        self.assertEqual(told, ([[(2, 2), (5, 0)], [], [(0, 2), (3, 0)], []],
                                [[(1, 2), (4, 0)], [], [(0, 2), (3, 0)], [], []]))
        told = self.judge(example(), (DOORS, ROADS), 7)
        self.assertEqual(told, ([[(5, 2), (8, 0)], [], [(3, 2), (6, 0)], []],
                                [[(4, 2), (7, 0)], [], [(3, 2), (6, 0)], [], []]))

    def test_turn_by_turn(self):
        for house, plan, least in some_plans():
            for bell in (least, least + 1, least + 9):
                told = self.judge(house, plan, bell)
                for turn in range(bell + 1):
                    for steps, other in zip(plan[0], told[0]):
                        self.assertEqual(rate(other, turn), rate(steps, bell - turn))
                    for steps, other, (_, _, length, _) in zip(plan[1], told[1], house.roads()):
                        self.assertEqual(rate(other, turn), rate(steps, bell - turn - length))
                for steps in told[0] + told[1]:
                    self.assertTrue(not steps or steps[-1][0] <= bell + 1)

    def test_far(self):
        for house, plan, bell in far_plans():
            for by in (bell, bell_of(house, plan), bell + 1):
                told = self.judge(house, plan, by)
                for steps, other in zip(plan[0], told[0]):
                    self.assertEqual([turn for turn, _ in other], [by + 1 - turn for turn, _ in reversed(steps)])
                    self.assertEqual([rate for _, rate in other][:-1], [rate for _, rate in reversed(steps)][1:])

    def test_parted_houses(self):
        for number, base in enumerate(near_houses()[::4]):
            house = parted(base, made_parts(base, number))
            self.judge(house, plan_by_order(house, made_order(house, random.Random(number)), 11), 11)
        house = parted(limit_house(1), made_parts(limit_house(1), 1, 12, (1, TOP), (0, TOP)))
        self.judge(house, plan_by_order(house, list(range(17)), 10 ** 12), 10 ** 12)

    def test_plans_that_bring_wishes(self):
        for number, house in enumerate(near_houses()[::2]):
            wishes = mean_of_corners(house, 9, number)
            plan = plan_for(house, wishes, 9)
            if plan is not None:
                self.assertTrue(is_plan_for(turned(house), wishes, 9, self.judge(house, plan, 9)))

    def test_nobody_goes(self):
        for house in houses():
            nobody = ([[] for _ in house.doors()], [[] for _ in house.roads()])
            for bell in (0, 5, 10 ** 12):
                self.assertEqual(turned_plan(house, nobody, bell), nobody)

    def test_a_bell_by_which_the_plan_is_not_through(self):
        late = 0
        for house, plan, least in some_plans() + far_plans():
            least = bell_of(house, plan)
            for bell in {least - 1, least // 2, 0}:
                if 0 <= bell < least:
                    late += 1
                    with self.assertRaises(BadBell) as caught:
                        turned_plan(house, plan, bell)
                    self.assertEqual(caught.exception.bell, bell)
        self.assertGreater(late, 60)

    def test_the_last_load_may_be_taken_long_ahead_of_the_bell(self):
        """An OUT with a late hour takes its last load that much sooner."""
        house = House(2, [(0, 1, 1, 1)], [("in", 0, 0), ("out", 1, 5)])
        plan = ([[(0, 1), (1, 0)], [(1, 1), (2, 0)]], [[(0, 1), (1, 0)]])
        with self.assertRaises(BadBell):
            turned_plan(house, plan, 5)
        self.assertEqual(turned_plan(house, plan, 6), ([[(6, 1), (7, 0)], [(5, 1), (6, 0)]], [[(5, 1), (6, 0)]]))

    def test_refused_first_of_several(self):
        forms = no_forms() + [bent((DOORS, ROADS), seed) for seed in range(12)]
        wrong = [thing for thing in forms if not is_plan(example(), thing)]
        self.assertGreater(len(wrong), len(no_forms()))
        parameters = [a_house(), Parameter("plan", (DOORS, ROADS), wrong, BadPlan),
                      Parameter("bell", 7, no_numbers() + [3, 0], BadBell)]
        judge_refusals(self, turned_plan, parameters)
        judge_names(self, turned_plan, parameters)
        judge_unchanged(self, turned_plan, [example(), (DOORS, ROADS), 7])
        for thing in a_house().wrong:
            for others in ((None, None), ((DOORS, ROADS), 7)):
                with self.assertRaises(BadHouse) as caught:
                    turned_plan(thing, *others)
                self.assertIs(caught.exception.thing, thing)

    def test_plans_of_another_house(self):
        for number in range(0, 60, 3):
            house, _, bell, plan = kept_wishes(number)
            other = far_house(number)
            if not is_plan(other, plan):
                with self.assertRaises(BadPlan) as caught:
                    turned_plan(other, plan, bell)
                self.assertIs(caught.exception.plan, plan)
            self.judge(house, plan, bell)

    def test_defined_in_their_file(self):
        for ask in (turned, turned_plan):
            self.assertEqual(ask.__module__, turned_file.__name__)
        judge_names(self, turned_plan, [a_house(), Parameter("plan", (DOORS, ROADS)), a_bell()])


def tupled_steps(plan):
    """A pair of lists of lists of pairs."""
    return tuple([[tuple(pair) for pair in steps] for steps in half] for half in plan)


if __name__ == "__main__":
    unittest.main()
