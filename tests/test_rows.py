import random
import unittest

from lastbell import rows
from lastbell.houses import House
from lastbell.kept import is_plan_for, lacking, lot_for
from lastbell.orders import corner, order_of
from lastbell.parts import parted
from lastbell.rows import is_row_for, plan_for, row_for
from tests.counted import kept_laid_out, most_by_rings, most_laid_out
from tests.judged import brought, fault_by_bell, fault_of_plan, fault_turn_by_turn
from tests.made import H_ROADS, all_lots, example
from tests.means import TOP, beside, far_houses, limit_house, made_order, mean_of_corners, near_houses
from tests.refusals import (a_bell, a_house, a_thing, judge_names, judge_refusals, judge_unchanged, listed,
                            some_wishes, tupled)
from tests.test_parts import no_parts
from tests.things import a_function, deep, example_house, no_lists, no_numbers
from tests.wished import asked_of_lot, kept_wishes, made_wishes, shut_houses

KEPT = [11, 4, 11, 4]
ROW = ([(0, 1, 0), (0, 1, 5), (2, 1, 0), (2, 1, 5)], [4, 5, 1, 0, 2, 3, 7, 6])


def small_wishes():
    """Small houses, wishes, and bells: kept, just kept, not kept."""
    found = []
    for number, house in enumerate(near_houses() + shut_houses()[::6]):
        for seed, bell in enumerate((5, 8, 12)):
            wishes = mean_of_corners(house, bell, number * 10 + seed)
            found += [(house, wishes, bell), (house, beside(house, wishes, number + seed), bell)]
        found.append((house, made_wishes(house, number), 9))
    return found


def far_wishes():
    found = []
    for number, house in enumerate(far_houses()):
        for seed, bell in enumerate((2 * TOP, 10 ** 10 + number, 10 ** 12)):
            wishes = mean_of_corners(house, bell, number * 10 + seed)
            found += [(house, wishes, bell), (house, beside(house, wishes, number + seed), bell)]
    return found


def kept_by_lots(house, wishes, bell, count):
    return all(asked_of_lot(house, wishes, lot) <= count(house, lot, bell) for lot in all_lots(house))


def fault_of_row(house, wishes, bell, row, count):
    """None, or what is wrong with a pair of right kinds: its corner is added up with mosts counted anew."""
    parts, order = row
    whole = parted(house, parts)
    if sorted(order) != list(range(len(whole.doors()))):
        return "no order"
    mosts = [count(whole, list(order[:many]), bell) for many in range(len(order) + 1)]
    sums = [0 for _ in wishes]
    for at, door in enumerate(order):
        own = door if door < len(wishes) else parts[door - len(wishes)][0]
        sums[own] += abs(mosts[at + 1] - mosts[at])
    return None if sums == list(wishes) else ("brings", sums)


class RowCase(unittest.TestCase):

    def judge_plan(self, house, wishes, bell):
        plan = plan_for(house, wishes, bell)
        name = (house.places(), house.roads(), house.doors(), wishes, bell)
        if plan is not None:
            self.assertIsNone(fault_of_plan(house, plan), name)
            self.assertIsNone(fault_by_bell(house, plan, bell), name)
            self.assertEqual([brought(steps) for steps in plan[0]], list(wishes), name)
            self.assertTrue(is_plan_for(house, wishes, bell, plan), name)
        return plan

    def judge_row(self, house, wishes, bell, count):
        row = row_for(house, wishes, bell)
        name = (house.places(), house.roads(), house.doors(), wishes, bell)
        if row is not None:
            parts, order = row
            self.assertEqual((type(row), type(parts), type(order)), (tuple, list, list), name)
            self.assertTrue(all(type(part) is tuple and len(part) == 3 for part in parts), name)
            self.assertTrue(all(type(one) is int for part in parts for one in part), name)
            self.assertTrue(all(type(door) is int for door in order), name)
            self.assertLessEqual(len(parts), 2 * len(house.doors()), name)
            self.assertIsNone(fault_of_row(house, wishes, bell, row, count), name)
            self.assertIs(is_row_for(house, wishes, bell, row), True, name)
        return row


class ExampleTest(RowCase):

    def test_all_numbers(self):
        self.assertIsNone(lot_for(example(), KEPT, 7))
        lot, _ = lot_for(example(), [12, 4, 11, 5], 7)
        self.assertEqual(lot, [0, 1])
        self.assertEqual(asked_of_lot(example(), [12, 4, 11, 5], lot), 16)
        self.assertIsNone(order_of(example(), KEPT, 7))
        self.assertIs(is_row_for(example(), KEPT, 7, ROW), True)
        self.assertEqual(corner(parted(example(), ROW[0]), ROW[1], 7), [4, 4, 4, 4, 6, 1, 6, 1])
        self.judge_row(example(), KEPT, 7, most_laid_out)
        self.judge_plan(example(), KEPT, 7)
        self.assertIsNotNone(plan_for(example(), KEPT, 7))
        for ask in (row_for, plan_for):
            self.assertIsNone(ask(example(), [12, 4, 11, 5], 7))


class SmallTest(RowCase):

    def test_kept_or_not_held_against_all_turns_laid_out(self):
        told = {True: 0, False: 0}
        for house, wishes, bell in small_wishes():
            kept = kept_laid_out(house, wishes, bell)
            told[kept] += 1
            plan = self.judge_plan(house, wishes, bell)
            self.assertEqual(plan is not None, kept, (house.roads(), house.doors(), wishes, bell))
            self.assertEqual(lot_for(house, wishes, bell) is None, kept)
            self.assertEqual(kept_by_lots(house, wishes, bell, most_laid_out), kept)
            if kept:
                self.assertIsNone(fault_turn_by_turn(house, plan, bell + 1))
        self.assertTrue(min(told.values()) > 70, told)

    def test_rows(self):
        parts = [0, 0]
        for house, wishes, bell in small_wishes():
            row = self.judge_row(house, wishes, bell, most_laid_out)
            self.assertEqual(row is None, bool(lacking(house, wishes, bell)))
            if row is not None:
                parts[bool(row[0])] += 1
                if order_of(house, wishes, bell) is None:
                    self.assertTrue(row[0], "no order has them, so some door is parted")
        self.assertTrue(min(parts) > 60, parts)

    def test_what_streams_bring(self):
        for seed in range(0, 120, 2):
            house, wishes, bell, _ = kept_wishes(seed)
            self.assertIsNotNone(self.judge_plan(house, wishes, bell))
            self.assertIsNotNone(self.judge_row(house, wishes, bell, most_laid_out))

    def test_corners(self):
        for number, house in enumerate(near_houses()):
            order = made_order(house, random.Random(number))
            wishes = corner(house, order, 8)
            self.assertIsNotNone(self.judge_plan(house, wishes, 8))
            self.judge_row(house, wishes, 8, most_laid_out)
            self.assertIs(is_row_for(house, wishes, 8, ([], order)), True)

    def test_nobody_wished(self):
        for house in near_houses()[::3]:
            none = [0 for _ in house.doors()]
            for bell in (0, 6, 10 ** 12):
                plan = self.judge_plan(house, none, bell)
                self.assertEqual(plan, ([[] for _ in house.doors()], [[] for _ in house.roads()]))
                self.assertIsNotNone(self.judge_row(house, none, bell, most_by_rings))

    def test_doors_of_one_sort_alone_and_none(self):
        for doors in ([], [("in", 0, 0), ("in", 1, 2), ("in", 0, 0)], [("out", 3, 0), ("out", 4, 9)], [("in", 2, 0)]):
            house = House(5, H_ROADS, doors)
            none = [0 for _ in doors]
            for bell in (0, 9, 10 ** 12):
                self.assertEqual(self.judge_plan(house, none, bell), ([[] for _ in doors], [[] for _ in H_ROADS]))
                row = self.judge_row(house, none, bell, most_by_rings)
                self.assertEqual(row[0], [])
                self.assertIs(is_row_for(house, none, bell, ([(at, 5, 0) for at in range(len(doors))],
                                                             list(range(2 * len(doors))))), True)

    def test_no_way(self):
        house = House(4, [(2, 0, 1, 5), (3, 1, 1, 5)], [("in", 0, 0), ("out", 2, 0), ("in", 1, 0), ("out", 3, 0)])
        self.assertEqual(self.judge_plan(house, [0, 0, 0, 0], 9), ([[], [], [], []], [[], []]))
        self.assertIsNotNone(self.judge_row(house, [0, 0, 0, 0], 9, most_laid_out))
        for wishes in ([1, 1, 0, 0], [0, 3, 3, 0]):
            self.assertIsNone(plan_for(house, wishes, 10 ** 12))
            self.assertIsNone(row_for(house, wishes, 10 ** 12))

    def test_doors_alike_and_beside_one_another(self):
        """What comes of parting doors that stand at one place, with one hour and unlike ones."""
        roads = [(0, 1, 1, 2), (1, 2, 0, 1), (1, 3, 2, 1), (0, 3, 4, 1)]
        doors = [("in", 0, 0), ("in", 0, 0), ("in", 0, 3), ("out", 2, 0), ("out", 3, 1)]
        house = House(4, roads, doors)
        told = {True: 0, False: 0}
        chance = random.Random(1)
        for _ in range(80):
            wishes = mean_of_corners(house, 9, chance.random())
            wishes = beside(house, wishes, chance.random())
            kept = kept_laid_out(house, wishes, 9)
            told[kept] += 1
            self.assertEqual(self.judge_plan(house, wishes, 9) is not None, kept)
            self.assertEqual(self.judge_row(house, wishes, 9, most_laid_out) is not None, kept)
        self.assertTrue(min(told.values()) > 5, told)


class FarTest(RowCase):

    def test_far(self):
        told = {True: 0, False: 0}
        parts = 0
        for house, wishes, bell in far_wishes()[::4] + far_wishes()[1::8]:
            kept = kept_by_lots(house, wishes, bell, most_by_rings)
            told[kept] += 1
            self.assertEqual(self.judge_plan(house, wishes, bell) is not None, kept)
            row = self.judge_row(house, wishes, bell, most_by_rings)
            self.assertEqual(row is not None, kept)
            parts = max(parts, len(row[0]) if row else 0)
        self.assertTrue(min(told.values()) > 10, told)
        self.assertGreater(parts, 6)

    def test_much_left(self):
        for number, house in enumerate(far_houses()[::4]):
            few = [one // 3 for one in mean_of_corners(house, 10 ** 12, number)]
            wishes = mean_of_corners(house, TOP * 3, number)
            self.assertIsNotNone(self.judge_plan(house, wishes, 10 ** 12))
            if sum(few[door] * (1 if house.doors()[door][0] == "in" else -1) for door in range(len(few))) == 0:
                self.assertIsNotNone(self.judge_plan(house, few, 10 ** 12))

    def test_at_the_limits(self):
        """Each of five doors has to be parted from the others, in the time that a test may take."""
        many = 0
        for seed in range(12):
            house = limit_house(seed)
            wishes = mean_of_corners(house, 10 ** 12, seed, 9)
            if not lacking(house, wishes, 10 ** 12):
                many = max(many, len(row_for(house, wishes, 10 ** 12)[0]))
                self.assertIsNotNone(self.judge_plan(house, wishes, 10 ** 12))
        self.assertEqual(many, 8)

    def test_one_far_road(self):
        house = House(2, [(0, 1, TOP, TOP)], [("in", 0, TOP), ("out", 1, TOP), ("in", 0, 0)])
        bell = 3 * TOP + 1
        let = TOP * (TOP + 2)
        for first in (0, 1, TOP, TOP + 1, 2 * TOP - 1, 2 * TOP):
            wishes = [first, let, let - first]
            self.assertIsNotNone(self.judge_plan(house, wishes, bell))
            self.assertIsNotNone(self.judge_row(house, wishes, bell, most_by_rings))
            self.assertIsNone(plan_for(house, [first, let + 1, let + 1 - first], bell))
        self.assertIsNone(plan_for(house, [2 * TOP + 1, let, let - 2 * TOP - 1], bell))

    def test_as_wide_as_the_wishes_let(self):
        house = House(2, [(0, 1, 0, 10 ** 9), (0, 1, 1, 10 ** 9)], [("in", 0, 0), ("out", 1, 0), ("out", 1, 5)])
        bell = 10 ** 12
        let = 10 ** 9 * (2 * bell + 1)
        self.assertIsNotNone(self.judge_plan(house, [let, let, 0], bell))
        self.assertIsNotNone(self.judge_plan(house, [let, 10 ** 21, let - 10 ** 21], bell))
        self.assertIsNone(plan_for(house, [let + 1, let + 1, 0], bell))
        self.assertIsNone(plan_for(house, [2 * 10 ** 21 + 1, 10 ** 21, 10 ** 21 + 1], 10 ** 12 // 2))


def bent_rows(house, row, seed):
    """The row with one of its numbers otherwise, one part less or more, or two doors exchanged."""
    chance = random.Random(seed)
    parts, order = [list(part) for part in row[0]], list(row[1])
    found = []
    for at in range(len(parts)):
        for which, change in ((1, 1), (1, -1), (2, 1), (2, -1)):
            other = listed(parts)
            other[at][which] += change
            found.append((other, list(order)))
        other = listed(parts)
        other[at][0] = chance.randrange(len(house.doors()))
        found.append((other, list(order)))
    for at in range(len(order) - 1):
        found.append((listed(parts), order[:at] + [order[at + 1], order[at]] + order[at + 2:]))
    place = chance.randint(0, len(order))
    found.append((parts + [[0, 1, 1]], order[:place] + [len(order)] + order[place:]))
    return [(parts, order) for parts, order in found if all(part[1] > 0 and part[2] >= 0 for part in parts)]


class IsRowTest(unittest.TestCase):

    def test_any_object(self):
        parts, order = ROW
        things = no_lists() + no_numbers() + [[], (), (parts,), [order], (parts, order, []), [order, parts], "ab", deep(45),
                                              {0: parts, 1: order}, (deep(44), order), (parts, deep(44)), ([], []),
                                              (None, None), (a_function, example_house()), (parts, order[:-1]),
                                              (parts[:-1], order), (parts, order + [8]), (parts, order[:-1] + [8]),
                                              (parts, order[:-1] + [7]), (parts + [(0, 1, 0)], order), ([], [0, 1, 2, 3]),
                                              (parts, [True if door == 1 else door for door in order]),
                                              (parts, [str(door) for door in order]), ([parts], [order])]
        things += [(thing, order) for thing in no_lists()] + [(parts, thing) for thing in no_lists()]
        for thing in no_parts():
            things += [(parts[:at] + [thing] + parts[at + 1:], order) for at in (0, 3)]
        for thing in things:
            self.assertIs(is_row_for(example(), KEPT, 7, thing), False, thing)

    def test_lists_and_tuples_mean_the_same(self):
        for row in (ROW, listed(ROW), tupled(ROW), [tupled(ROW[0]), ROW[1]]):
            self.assertIs(is_row_for(example(), KEPT, 7, row), True)

    def test_other_wishes_and_bells(self):
        self.assertIs(is_row_for(example(), [10, 5, 11, 4], 7, ROW), False)
        self.assertIs(is_row_for(example(), KEPT, 6, ROW), False)
        self.assertIs(is_row_for(example(), KEPT, 8, ROW), False)

    def test_more_parts(self):
        """A part of which nobody comes in time, anywhere in the order; one part as two beside one another."""
        for house, wishes, bell in small_wishes()[::3]:
            row = row_for(house, wishes, bell)
            if row is None or not house.doors():
                continue
            parts, order = row
            chance = random.Random(bell)
            for _ in range(14):
                place = chance.randint(0, len(order))
                parts = parts + [(chance.randrange(len(wishes)), chance.randint(1, 9), bell + chance.randint(1, 9))]
                order = order[:place] + [len(order)] + order[place:]
            self.assertIs(is_row_for(house, wishes, bell, (parts, order)), True)
            wide = [at for at, part in enumerate(row[0]) if part[1] > 1]
            for at in wide:
                door, room, late = row[0][at]
                number = len(wishes) + at
                new = len(wishes) + len(row[0])
                parts = row[0][:at] + [(door, room - 1, late)] + row[0][at + 1:] + [(door, 1, late)]
                place = row[1].index(number)
                for order in (row[1][:place] + [new] + row[1][place:], row[1][:place + 1] + [new] + row[1][place + 1:]):
                    self.assertIs(is_row_for(house, wishes, bell, (parts, order)), True)

    def test_renumbered_parts(self):
        for house, wishes, bell in small_wishes()[::3]:
            row = row_for(house, wishes, bell)
            if row is not None:
                parts, order = row
                many = len(wishes)
                last = many + len(parts) - 1
                turned = [door if door < many else last - (door - many) for door in order]
                self.assertIs(is_row_for(house, wishes, bell, (parts[::-1], turned)), True)

    def test_bent_rows(self):
        told = {True: 0, False: 0}
        for number, (house, wishes, bell) in enumerate(small_wishes()[::8]):
            row = row_for(house, wishes, bell)
            if row is not None and house.doors():
                for bent in bent_rows(house, row, number):
                    right = fault_of_row(house, wishes, bell, bent, most_laid_out) is None
                    told[right] += 1
                    self.assertIs(is_row_for(house, wishes, bell, bent), right, (house.roads(), wishes, bell, bent))
        self.assertTrue(min(told.values()) > 30, told)

    def test_far_bent_rows(self):
        told = {True: 0, False: 0}
        for number, (house, wishes, bell) in enumerate(far_wishes()[::25]):
            row = row_for(house, wishes, bell)
            if row is not None:
                for bent in bent_rows(house, row, number)[::4]:
                    right = fault_of_row(house, wishes, bell, bent, most_by_rings) is None
                    told[right] += 1
                    self.assertIs(is_row_for(house, wishes, bell, bent), right)
        self.assertTrue(told[False] > 10, told)

    def test_wishes_that_are_not_kept_have_no_row(self):
        for house, wishes, bell in small_wishes()[::5]:
            if lot_for(house, wishes, bell) is not None:
                few = [one // 2 for one in wishes]
                for row in (([], list(range(len(wishes)))), row_for(house, few, bell) if sum(few) == 0 else None):
                    self.assertIs(is_row_for(house, wishes, bell, row), False)


class KindsTest(unittest.TestCase):

    def test_kinds_and_sameness(self):
        for house, wishes, bell in small_wishes()[::17] + far_wishes()[::60]:
            again = House(house.places(), tupled(house.roads()), listed(house.doors()))
            row = row_for(house, wishes, bell)
            for ask in (row_for, plan_for):
                judge_unchanged(self, ask, [house, wishes, bell])
                self.assertEqual(ask(again, tuple(wishes), bell), ask(house, wishes, bell))
            judge_unchanged(self, is_row_for, [house, wishes, bell, row])

    def test_one_house_asked_in_turns_and_one_list_changed_in_between(self):
        house = example()
        wishes = [0, 0, 0, 0]
        first = {}
        for _ in range(3):
            for numbers in (KEPT, [0, 0, 0, 0], [12, 4, 11, 5], [9, 4, 9, 4], [12, 3, 10, 5]):
                for at, number in enumerate(numbers):
                    wishes[at] = number
                told = plan_for(house, wishes, 7), row_for(house, wishes, 7)
                self.assertEqual(first.setdefault(tuple(numbers), told), told)
                self.assertEqual(plan_for(house, list(numbers), 7), told[0])
                if told[0]:
                    told[0][0][0].append("more")
                    told[1][0].append("more")
                    first[tuple(numbers)] = plan_for(house, wishes, 7), row_for(house, wishes, 7)

    def test_refused(self):
        parameters = [a_house(), some_wishes(), a_bell()]
        for ask in (row_for, plan_for):
            judge_refusals(self, ask, parameters)
            judge_names(self, ask, parameters)
        judge_refusals(self, is_row_for, [*parameters, a_thing()])
        judge_names(self, is_row_for, [*parameters, a_thing()])

    def test_defined_in_their_file(self):
        for ask in (row_for, is_row_for, plan_for):
            self.assertEqual(ask.__module__, rows.__name__)


if __name__ == "__main__":
    unittest.main()
