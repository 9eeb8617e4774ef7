import random
import unittest

from lastbell import kept
from lastbell.houses import House
from lastbell.kept import asked, is_lot_for, is_plan_for, lacking, lot_for
from lastbell.lots import most, most_plan
from lastbell.moments import moments_for, worth
from tests.counted import kept_laid_out, most_by_rings, most_laid_out
from tests.judged import fault_by_bell, fault_of_plan
from tests.made import H_DOORS, H_ROADS, all_lots, example
from tests.refusals import (Parameter, a_bell, a_house, a_lot, a_thing, bad_lots, judge_names, judge_refusals,
                            judge_unchanged, listed, some_wishes, tupled)
from tests.test_moments import are_moments, no_lists_of_five, own_worth
from tests.test_plans import bent, no_forms
from tests.things import a_function, deep, example_house, no_lists
from tests.wished import (asked_of_lot, far_wished_houses, kept_wishes, made_wishes, one_load_more, shut_houses,
                          wished_houses)


def lacks_counted(house, wishes, bell, count):
    """By lots, by how much more is asked than gets through."""
    return {tuple(lot): asked_of_lot(house, wishes, lot) - count(house, lot, bell) for lot in all_lots(house)}


class ExampleTest(unittest.TestCase):

    def test_kept(self):
        self.assertIsNone(lot_for(example(), [11, 4, 11, 4], 7))
        self.assertEqual(lacking(example(), [11, 4, 11, 4], 7), [])

    def test_not_kept(self):
        wishes = [12, 4, 11, 5]
        self.assertEqual(asked(example(), wishes, [0, 1]), 16)
        lot, moments = lot_for(example(), wishes, 7)
        self.assertEqual(lot, [0, 1])
        self.assertEqual(worth(example(), moments), 15)
        self.assertIs(is_lot_for(example(), wishes, 7, ([0, 1], [0, 1, 5, 8, 7])), True)
        self.assertIsNone(lot_for(example(), wishes, 8))

    def test_a_plan(self):
        plan = ([[(0, 2), (3, 0)], [], [(2, 2), (5, 0)], []], [[(0, 2), (3, 0)], [], [(1, 2), (4, 0)], [], []])
        self.assertIs(is_plan_for(example(), [6, 0, 6, 0], 4, plan), True)
        self.assertIs(is_plan_for(example(), [6, 0, 6, 0], 3, plan), False)
        self.assertIs(is_plan_for(example(), [6, 0, 0, 6], 4, plan), False)
        self.assertIs(is_plan_for(example(), [5, 0, 5, 0], 4, plan), False)


class AskedTest(unittest.TestCase):

    def test_counted_anew(self):
        for number, house in enumerate(wished_houses()[::3] + shut_houses()[::5]):
            for seed in range(5):
                wishes = made_wishes(house, number * 10 + seed, (1, 10 ** 20)[seed % 2])
                for lot in all_lots(house):
                    for form in (lot, lot[::-1], tuple(lot)):
                        self.assertEqual(asked(house, wishes, form), asked_of_lot(house, wishes, lot))
                self.assertEqual(asked(house, tuple(wishes), []), 0)
                self.assertEqual(asked(house, wishes, list(range(len(wishes)))), 0)

    def test_below_0(self):
        self.assertEqual(asked(example(), [12, 4, 11, 5], [2]), -11)
        self.assertEqual(asked(example(), [12, 4, 11, 5], [3, 1, 2]), -12)
        self.assertEqual(asked(example(), [2 * 10 ** 21, 0, 0, 2 * 10 ** 21], [0, 2]), 2 * 10 ** 21)

    def test_refused(self):
        parameters = [a_house(), some_wishes(), a_lot()]
        judge_refusals(self, asked, parameters)
        judge_names(self, asked, parameters)
        judge_unchanged(self, asked, [example(), [12, 4, 11, 5], [1, 0]])


class LackingTest(unittest.TestCase):

    def judge(self, house, wishes, bell, count):
        lacks = lacks_counted(house, wishes, bell, count)
        worst = max(lacks.values())
        expected = sorted(list(lot) for lot in lacks if lacks[lot] == worst) if worst > 0 else []
        self.assertEqual(lacking(house, wishes, bell), expected, (house.roads(), house.doors(), wishes, bell))
        told = lot_for(house, wishes, bell)
        if not expected:
            self.assertIsNone(told)
            return 0
        within = set.intersection(*[set(lot) for lot in expected])
        self.assertEqual(type(told), tuple)
        lot, moments = told
        self.assertEqual(lot, sorted(within))
        self.assertTrue(are_moments(house, lot, bell, moments))
        self.assertEqual(own_worth(house, moments), asked_of_lot(house, wishes, lot) - worst)
        self.assertIs(is_lot_for(house, wishes, bell, told), True)
        for one in expected:
            for other in expected:
                self.assertIn(sorted(set(one) | set(other)), expected)
                self.assertIn(sorted(set(one) & set(other)), expected)
        return len(expected)

    def test_against_all_lots(self):
        several = 0
        for number, house in enumerate(wished_houses()):
            for seed in range(3):
                wishes = made_wishes(house, number * 10 + seed, 1 + seed % 2)
                for bell in (2 + seed, 9):
                    several += self.judge(house, wishes, bell, most_laid_out) > 1
        self.assertGreater(several, 30)

    def test_where_nothing_gets_through(self):
        for number, house in enumerate(shut_houses()):
            for bell in (0, 5):
                self.judge(house, made_wishes(house, number), bell, most_laid_out)

    def test_far(self):
        top = 10 ** 9
        found = 0
        for number, house in enumerate(far_wished_houses()):
            for far, bell in ((1, top), (top * top, 3 * top), (10 ** 20, 10 ** 12), (2 * 10 ** 20, 10 ** 12)):
                found += self.judge(house, made_wishes(house, number, far), bell, most_by_rings) > 0
        self.assertGreater(found, 20)

    def test_kept_or_some_lot_lacks(self):
        both = {True: 0, False: 0}
        for number, house in enumerate(wished_houses()):
            for seed in range(4):
                wishes = made_wishes(house, number * 10 + seed)
                bell = (4, 6, 9, 14)[seed]
                told = kept_laid_out(house, wishes, bell)
                self.assertIs(lot_for(house, wishes, bell) is None, told)
                self.assertIs(lacking(house, wishes, bell) == [], told)
                both[told] += 1
        self.assertTrue(min(both.values()) > 100, both)

    def test_what_streams_bring_is_kept(self):
        for seed in range(150):
            house, wishes, bell, _ = kept_wishes(seed)
            for one in (bell, bell + 1, bell + 50, 10 ** 12):
                self.assertIsNone(lot_for(house, wishes, one))
                self.assertEqual(lacking(house, wishes, one), [])

    def test_just_kept_and_just_not(self):
        """Wishes are made more load by load till none more is let: then each one more lacks by just one."""
        for house in wished_houses()[::4]:
            bell = 8
            wishes = [0 for _ in house.doors()]
            grown = True
            while grown:
                grown = False
                for _, _, more in one_load_more(house, wishes):
                    if lot_for(house, more, bell) is None:
                        wishes, grown = more, True
                        break
            self.assertTrue(kept_laid_out(house, wishes, bell))
            for _, _, more in one_load_more(house, wishes):
                self.assertFalse(kept_laid_out(house, more, bell))
                lot, moments = lot_for(house, more, bell)
                self.assertEqual(asked_of_lot(house, more, lot), own_worth(house, moments) + 1)
                self.judge(house, more, bell, most_laid_out)

    def test_doors_of_one_sort_alone_and_none(self):
        for doors in ([], [("in", 0, 0), ("in", 1, 2)], [("out", 3, 0), ("out", 4, 0)]):
            house = House(5, H_ROADS, doors)
            wishes = [0 for _ in doors]
            for bell in (0, 7):
                self.assertEqual(lacking(house, wishes, bell), [])
                self.assertIsNone(lot_for(house, wishes, bell))
                self.assertIs(is_plan_for(house, wishes, bell, ([[] for _ in doors], [[] for _ in H_ROADS])), True)
                self.assertIs(is_lot_for(house, wishes, bell, ([], [0] * 5)), False)

    def test_several_lots_that_lack_by_the_most(self):
        house = House(4, [(0, 2, 1, 1), (1, 3, 1, 1)], [("in", 0, 0), ("in", 1, 0), ("out", 2, 0), ("out", 3, 0)])
        self.assertEqual(lacking(house, [5, 5, 5, 5], 2), [[0, 1]])
        self.assertEqual(lacking(house, [5, 2, 5, 2], 2), [[0], [0, 1], [0, 1, 3]])
        self.assertEqual(lot_for(house, [5, 2, 5, 2], 2)[0], [0])
        self.assertEqual(lacking(house, [2, 2, 0, 4], 2), [[0, 1, 2], [0, 2]])
        self.assertEqual(lot_for(house, [2, 2, 0, 4], 2)[0], [0, 2])

    def test_kinds_and_sameness(self):
        for house in wished_houses()[::6]:
            again = House(house.places(), tupled(house.roads()), listed(house.doors()))
            for seed in range(4):
                wishes = made_wishes(house, seed, 2)
                for ask in (lacking, lot_for):
                    self.assertEqual(ask(again, tuple(wishes), 5), ask(house, wishes, 5))
                    judge_unchanged(self, ask, [house, wishes, 5])

    def test_refused(self):
        parameters = [a_house(), some_wishes(), a_bell()]
        for ask in (lacking, lot_for):
            judge_refusals(self, ask, parameters)
            judge_names(self, ask, parameters)


def no_pairs():
    return no_lists() + [[], (), ([0, 1],), ([0, 1], [0, 1, 5, 8, 7], 0), "ab", deep(45), {0: [0, 1], 1: [0] * 5},
                         [0, 1], [a_function, a_function], [example_house()] * 2]


class IsLotForTest(unittest.TestCase):

    wishes = [12, 4, 11, 5]

    def test_forms(self):
        right = ([0, 1], [0, 1, 5, 8, 7])
        for form in (right, list(right), tupled(right), ((1, 0), (0, 1, 5, 8, 7))):
            self.assertIs(is_lot_for(example(), self.wishes, 7, form), True)
            self.assertIs(is_lot_for(example(), tuple(self.wishes), 7, form), True)

    def test_no_pair(self):
        for thing in no_pairs():
            self.assertIs(is_lot_for(example(), self.wishes, 7, thing), False, thing)

    def test_no_lot(self):
        for thing in bad_lots():
            self.assertIs(is_lot_for(example(), self.wishes, 7, (thing, [0, 1, 5, 8, 7])), False)

    def test_no_moments(self):
        for thing in no_lists_of_five():
            self.assertIs(is_lot_for(example(), self.wishes, 7, ([0, 1], thing)), False)

    def test_moments_bent_in_one_thing(self):
        right = [0, 1, 5, 8, 7]
        for at in range(5):
            for moment in range(12):
                moments = right[:at] + [moment] + right[at + 1:]
                told = are_moments(example(), [0, 1], 7, moments) and own_worth(example(), moments) < 16
                self.assertIs(is_lot_for(example(), self.wishes, 7, ([0, 1], moments)), told)

    def test_other_lots_and_bells(self):
        for lot in all_lots(example()):
            moments = moments_for(example(), lot, 7)
            told = asked_of_lot(example(), self.wishes, lot) > most(example(), lot, 7)
            self.assertIs(is_lot_for(example(), self.wishes, 7, (lot, moments)), told)
        self.assertIs(is_lot_for(example(), self.wishes, 8, ([0, 1], [0, 1, 5, 8, 7])), False)
        self.assertIs(is_lot_for(example(), self.wishes, 6, ([0, 1], [0, 1, 5, 8, 7])), True)

    def test_worth_just_what_is_asked(self):
        self.assertIs(is_lot_for(example(), [11, 4, 11, 4], 7, ([0, 1], [0, 1, 5, 8, 7])), False)
        self.assertIs(is_lot_for(example(), [11, 5, 11, 5], 7, ([0, 1], [0, 1, 5, 8, 7])), True)

    def test_all_lots_of_many_houses(self):
        right = 0
        for number, house in enumerate(wished_houses()[::2]):
            wishes = made_wishes(house, number, 2)
            for lot in all_lots(house):
                moments = moments_for(house, lot, 6)
                told = asked_of_lot(house, wishes, lot) > own_worth(house, moments)
                self.assertIs(is_lot_for(house, wishes, 6, (lot, moments)), told)
                right += told
                for at in range(house.places()):
                    for moment in (moments[at] + 1, max(0, moments[at] - 1)):
                        other = moments[:at] + [moment] + moments[at + 1:]
                        told = are_moments(house, lot, 6, other) and (
                            asked_of_lot(house, wishes, lot) > own_worth(house, other))
                        self.assertIs(is_lot_for(house, wishes, 6, (lot, other)), told)
        self.assertGreater(right, 100)

    def test_refused(self):
        parameters = [a_house(), some_wishes(), a_bell(), a_thing()]
        judge_refusals(self, is_lot_for, parameters)
        judge_names(self, is_lot_for, parameters)
        judge_names(self, is_lot_for, [*parameters[:3], Parameter("thing", ([0, 1], [0, 1, 5, 8, 7]))])
        judge_unchanged(self, is_lot_for, [example(), self.wishes, 7, ([1, 0], [0, 1, 5, 8, 7])])


class IsPlanForTest(unittest.TestCase):

    def test_plans_of_streams(self):
        for seed in range(150):
            house, wishes, bell, plan = kept_wishes(seed)
            for form in (plan, listed(plan), tupled(plan)):
                self.assertIs(is_plan_for(house, wishes, bell, form), True)
            self.assertIs(is_plan_for(house, tuple(wishes), bell + 9, plan), True)
            if bell > 0:
                self.assertIs(is_plan_for(house, wishes, bell - 1, plan), False)
            for _, _, more in one_load_more(house, wishes):
                self.assertIs(is_plan_for(house, more, bell, plan), False)

    def test_wishes_moved_from_door_to_door(self):
        for seed in range(100):
            house, wishes, bell, plan = kept_wishes(seed)
            sorts = [sort for sort, _, _ in house.doors()]
            for door, one in enumerate(wishes):
                for other in range(len(wishes)):
                    if one > 0 and door != other and sorts[door] == sorts[other]:
                        moved = list(wishes)
                        moved[door] -= 1
                        moved[other] += 1
                        self.assertIs(is_plan_for(house, moved, bell, plan), False)

    def test_plans_of_most_plan(self):
        for house in wished_houses()[::3]:
            for lot in all_lots(house)[1::3]:
                plan = most_plan(house, lot, 9)
                amount = most_laid_out(house, lot, 9)
                brought = [sum(rate * (end - start) for (start, rate), (end, _) in zip(steps, steps[1:]))
                           for steps in plan[0]]
                self.assertEqual(sum(brought), 2 * amount)
                self.assertIs(is_plan_for(house, brought, 9, plan), True)

    def test_bent_plans(self):
        right = 0
        for seed in range(150):
            house, wishes, bell, plan = kept_wishes(seed)
            for more in range(6):
                crooked = bent(plan, seed * 10 + more)
                told = fault_of_plan(house, crooked) is None and fault_by_bell(house, crooked, bell) is None
                told = told and [sum(rate * (end - start) for (start, rate), (end, _) in zip(steps, steps[1:]))
                                 for steps in crooked[0]] == wishes
                self.assertIs(is_plan_for(house, wishes, bell, crooked), told)
                right += not told
        self.assertGreater(right, 500)

    def test_things_of_no_form(self):
        for thing in no_forms():
            self.assertIs(is_plan_for(example(), [6, 0, 6, 0], 4, thing), False)
            self.assertIs(is_plan_for(example(), [0, 0, 0, 0], 4, thing), False)

    def test_far(self):
        top = 10 ** 9
        house = House(2, [(0, 1, top, top)], [("in", 0, top), ("out", 1, top)])
        start, end = top, 10 ** 12 - 2 * top + 1
        plan = ([[(start, top), (end, 0)], [(start + top, top), (end + top, 0)]], [[(start, top), (end, 0)]])
        loads = top * (end - start)
        self.assertIs(is_plan_for(house, [loads, loads], 10 ** 12, plan), True)
        self.assertIs(is_plan_for(house, [loads, loads], 10 ** 12 - 1, plan), False)
        self.assertIs(is_plan_for(house, [loads + 1, loads + 1], 10 ** 12, plan), False)
        self.assertIs(is_plan_for(house, [2 * 10 ** 21] * 2, 10 ** 12, plan), False)

    def test_refused(self):
        parameters = [a_house(), some_wishes(), a_bell(), a_thing()]
        judge_refusals(self, is_plan_for, parameters)
        judge_names(self, is_plan_for, parameters)
        _, wishes, bell, plan = kept_wishes(0)
        house = kept_wishes(0)[0]
        judge_unchanged(self, is_plan_for, [house, wishes, bell, plan])

    def test_defined_in_their_file(self):
        for ask in (asked, lacking, lot_for, is_lot_for, is_plan_for):
            self.assertEqual(ask.__module__, kept.__name__)


if __name__ == "__main__":
    unittest.main()
