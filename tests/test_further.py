import random
import unittest
from fractions import Fraction
from itertools import permutations
from math import gcd

from lastbell import further as further_file
from lastbell.errors import BadDoor, NotKept, SameDoor
from lastbell.further import bound, further, tight, times, whole_times
from lastbell.houses import House
from lastbell.kept import lot_for
from tests.counted import kept_laid_out, most_by_rings, most_laid_out
from tests.made import H_ROADS, all_lots, example
from tests.means import TOP, beside, far_houses, mean_of_corners, near_houses
from tests.refusals import (Parameter, a_bell, a_house, bad_wishes, judge_names, judge_refusals, judge_unchanged,
                            listed, some_wishes, tupled)
from tests.things import a_function, deep, example_house, no_numbers
from tests.wished import asked_of_lot, made_wishes, shut_houses, sorts_of

KEPT = [9, 4, 9, 4]
FULL = [10, 5, 10, 5]


def bad_doors():
    """Things that are no number of one of four doors."""
    return [4, 5, 10 ** 9, -1, -4, True, False, None, "0", "", [], [0], (1,), {}, {0: 0}, a_function, example_house(), deep(45)]


def moved(house, wishes, up, down, loads):
    """The wishes with so many loads more at one door, and less at the other; below 0, the other way about."""
    found = list(wishes)
    found[up] += loads if sorts_of(house)[up] == "in" else -loads
    found[down] -= loads if sorts_of(house)[down] == "in" else -loads
    return found


def kept_ones(count=1):
    """Small houses, kept wishes and bells."""
    found = []
    for number, house in enumerate((near_houses() + shut_houses()[::6])[::count]):
        for wishes in (mean_of_corners(house, 8, number), made_wishes(house, number), [0 for _ in house.doors()]):
            if lot_for(house, wishes, 8) is None:
                found.append((house, wishes, 8))
    return found


def far_kept_ones():
    found = []
    for number, house in enumerate(far_houses()[::3]):
        for bell in (2 * TOP, 10 ** 12):
            wishes = mean_of_corners(house, bell, number)
            if lot_for(house, wishes, bell) is None:
                found.append((house, wishes, bell))
    return found


def left_of_lots(house, wishes, bell, count):
    """By lots, most less what is asked; counted anew."""
    return {tuple(lot): count(house, lot, bell) - asked_of_lot(house, wishes, lot) for lot in all_lots(house)}


class ExampleTest(unittest.TestCase):

    def test_all_numbers(self):
        self.assertEqual(further(example(), KEPT, 7, 0, 1), 3)
        self.assertEqual(further(example(), KEPT, 7, 0, 3), 1)
        self.assertEqual(further(example(), KEPT, 7, 2, 0), 8)
        self.assertEqual(tight(example(), KEPT, 7), [[], [0, 1, 2, 3]])
        self.assertEqual(times(example(), KEPT, 7), (15, 13))
        self.assertEqual(tight(example(), FULL, 7), [[], [0, 1], [0, 1, 2], [0, 1, 2, 3], [1]])
        self.assertEqual(bound(example(), FULL, 7, 0), [0, 1])


class FurtherTest(unittest.TestCase):

    def judge(self, house, wishes, bell, count):
        """Of all pairs of doors, in both orders, the least that is left; tells by kinds how many could go."""
        left = left_of_lots(house, wishes, bell, count)
        found = {}
        for up, down in permutations(range(len(wishes)), 2):
            told = further(house, wishes, bell, up, down)
            self.assertIs(type(told), int)
            self.assertEqual(told, min(left[lot] for lot in left if up in lot and down not in lot))
            kinds = sorts_of(house)[up], sorts_of(house)[down]
            found.setdefault(kinds, []).append(told)
            yield up, down, told, kinds

    def test_just_so_many_and_not_one_more(self):
        some = {}
        for house, wishes, bell in kept_ones(2):
            for up, down, told, kinds in self.judge(house, wishes, bell, most_laid_out):
                some.setdefault(kinds, []).append(told)
                self.assertTrue(kept_laid_out(house, moved(house, wishes, up, down, told), bell))
                more = moved(house, wishes, up, down, told + 1)
                self.assertFalse(min(more) >= 0 and kept_laid_out(house, more, bell))
        self.assertEqual(len(some), 4)
        for kinds, numbers in some.items():
            self.assertTrue(numbers.count(0) > 10 and len(numbers) - numbers.count(0) > 10, (kinds, numbers))

    def test_far(self):
        above = 0
        for house, wishes, bell in far_kept_ones():
            for up, down, told, _ in self.judge(house, wishes, bell, most_by_rings):
                above += told > 0
                self.assertIsNone(lot_for(house, moved(house, wishes, up, down, told), bell))
                more = moved(house, wishes, up, down, told + 1)
                self.assertTrue(min(more) < 0 or lot_for(house, more, bell) is not None)
        self.assertGreater(above, 60)

    def test_a_part_of_it_the_rest_and_back(self):
        for number, (house, wishes, bell) in enumerate(kept_ones(3) + far_kept_ones()[::2]):
            chance = random.Random(number)
            for up, down in permutations(range(len(wishes)), 2):
                whole = further(house, wishes, bell, up, down)
                back = further(house, wishes, bell, down, up)
                part = chance.randint(0, whole)
                then = moved(house, wishes, up, down, part)
                self.assertEqual(further(house, then, bell, up, down), whole - part)
                self.assertEqual(further(house, then, bell, down, up), back + part)

    def test_one_list_that_is_changed_in_between(self):
        wishes = [9, 4, 9, 4]
        for _ in range(3):
            self.assertEqual(further(example(), wishes, 7, 0, 1), 3)
            wishes[0], wishes[1] = 12, 1
            self.assertEqual(further(example(), wishes, 7, 0, 1), 0)
            self.assertEqual(further(example(), wishes, 7, 1, 0), 4)
            wishes[0], wishes[1] = 9, 4

    def test_no_more_than_there_is(self):
        """An IN has less, or an OUT, only as long as it has anything."""
        self.assertEqual(further(example(), [0, 0, 0, 0], 7, 0, 1), 0)
        self.assertEqual(further(example(), [0, 0, 0, 0], 7, 2, 3), 0)
        self.assertEqual(further(example(), [0, 0, 0, 0], 7, 2, 0), 0)
        self.assertEqual(further(example(), [1, 2, 3, 0], 10 ** 12, 2, 0), 1)
        self.assertEqual(further(example(), [1, 2, 3, 0], 10 ** 12, 2, 1), 2)


class TightTest(unittest.TestCase):

    def judge(self, house, wishes, bell, count):
        left = left_of_lots(house, wishes, bell, count)
        lots = sorted(list(lot) for lot in left if left[lot] == 0)
        told = tight(house, wishes, bell)
        self.assertEqual(told, lots)
        self.assertTrue(type(told) is list and all(type(lot) is list for lot in told))
        for door in range(len(wishes)):
            least = bound(house, wishes, bell, door)
            self.assertIs(type(least), list)
            self.assertIn(least, lots)
            self.assertIn(door, least)
            for lot in lots:
                self.assertTrue(door not in lot or set(least) <= set(lot))
            for other in range(len(wishes)):
                if other != door:
                    self.assertEqual(further(house, wishes, bell, door, other) == 0, other not in least)
        for lot in lots:
            for other in lots:
                self.assertIn(sorted(set(lot) | set(other)), lots)
                self.assertIn(sorted(set(lot) & set(other)), lots)
        return len(lots)

    def test_small(self):
        many = [self.judge(house, wishes, bell, most_laid_out) for house, wishes, bell in kept_ones(2)]
        self.assertTrue(many.count(2) > 3 and max(many) > 8, many)

    def test_far(self):
        for house, wishes, bell in far_kept_ones()[::2]:
            self.judge(house, wishes, bell, most_by_rings)

    def test_without_doors(self):
        house = House(2, [(0, 1, 1, 1)], [])
        self.assertEqual(tight(house, [], 5), [[]])

    def test_doors_of_one_sort(self):
        for doors in ([("in", 0, 0), ("in", 1, 2)], [("out", 3, 0), ("out", 4, 1)]):
            house = House(5, H_ROADS, doors)
            self.assertEqual(tight(house, [0, 0], 9), [[], [0], [0, 1], [1]])
            self.assertEqual(bound(house, [0, 0], 9, 1), [1])
            self.assertEqual(further(house, [0, 0], 9, 0, 1), 0)


class TimesTest(unittest.TestCase):

    def judge(self, house, wishes, bell, count):
        found = [Fraction(count(house, lot, bell), asked_of_lot(house, wishes, lot)) for lot in all_lots(house)
                 if asked_of_lot(house, wishes, lot) > 0]
        told = times(house, wishes, bell)
        if not found:
            self.assertIsNone(told)
            self.assertIsNone(whole_times(house, wishes, bell))
            self.assertFalse(any(wishes))
            return None
        self.assertEqual((type(told), [type(one) for one in told]), (tuple, [int, int]))
        self.assertEqual(told, (min(found).numerator, min(found).denominator))
        self.assertEqual(gcd(*told), 1)
        whole = whole_times(house, wishes, bell)
        self.assertIs(type(whole), int)
        self.assertEqual(whole, min(found).numerator // min(found).denominator)
        self.assertIsNone(lot_for(house, [one * whole for one in wishes], bell))
        self.assertIsNotNone(lot_for(house, [one * (whole + 1) for one in wishes], bell))
        self.assertEqual(lot_for(house, wishes, bell) is None, whole >= 1)
        return told

    def test_small(self):
        kinds = {"none": 0, "0": 0, "below 1": 0, "1": 0, "above": 0}
        for number, house in enumerate(near_houses() + shut_houses()[::6]):
            wishes = mean_of_corners(house, 8, number)
            for some in (wishes, beside(house, wishes, number), made_wishes(house, number), [one // 3 for one in wishes]):
                if asked_of_lot(house, some, range(len(some))) == 0:
                    told = self.judge(house, some, 8, most_laid_out)
                    kinds["none" if told is None else "0" if told == (0, 1) else "1" if told == (1, 1) else
                          "below 1" if told[0] < told[1] else "above"] += 1
        self.assertTrue(min(kinds.values()) > 8, kinds)

    def test_far(self):
        for number, house in enumerate(far_houses()[::3]):
            for far, bell in ((1, 2 * TOP), (10 ** 9, 10 ** 12), (10 ** 20, 10 ** 12)):
                self.judge(house, made_wishes(house, number, far), bell, most_by_rings)
            self.judge(house, mean_of_corners(house, 10 ** 12, number), 10 ** 12, most_by_rings)

    def test_so_many_loads_as_get_through(self):
        self.assertEqual(times(example(), [15, 0, 15, 0], 7), (4, 5))
        self.assertEqual(times(example(), [1, 0, 1, 0], 7), (12, 1))
        self.assertEqual(whole_times(example(), [1, 0, 1, 0], 7), 12)
        self.assertEqual(times(example(), [5, 0, 5, 0], 7), (12, 5))
        self.assertEqual(whole_times(example(), [5, 0, 5, 0], 7), 2)
        self.assertEqual(times(example(), [5, 0, 5, 0], 1), (0, 1))
        self.assertEqual(whole_times(example(), [5, 0, 5, 0], 1), 0)
        self.assertIsNone(times(example(), [0, 0, 0, 0], 7))


class KindsTest(unittest.TestCase):

    def test_kinds_and_sameness(self):
        for house, wishes, bell in kept_ones(6) + far_kept_ones()[::6]:
            again = House(house.places(), tupled(house.roads()), listed(house.doors()))
            for ask, others in ((further, (0, 1)), (tight, ()), (bound, (1,)), (times, ()), (whole_times, ())):
                if len(wishes) > 1:
                    judge_unchanged(self, ask, [house, wishes, bell, *others])
                    self.assertEqual(ask(again, tuple(wishes), bell, *others), ask(house, wishes, bell, *others))

    def refused(self, *passed):
        return [a_house(), Parameter("wishes", KEPT, bad_wishes(), some_wishes().error), a_bell(), *passed]

    def test_refused(self):
        up = Parameter("up", 0, bad_doors(), BadDoor, "door")
        down = Parameter("down", 3, bad_doors(), BadDoor, "door")
        judge_refusals(self, further, self.refused(up, down))
        judge_names(self, further, self.refused(up, down))
        door = Parameter("door", 2, bad_doors(), BadDoor, "door")
        judge_refusals(self, bound, self.refused(door))
        judge_names(self, bound, self.refused(door))
        for ask in (tight, times, whole_times):
            judge_refusals(self, ask, self.refused())
            judge_names(self, ask, self.refused())

    def test_the_same_door(self):
        for wishes in (KEPT, [12, 4, 11, 5]):
            for door in range(4):
                for call in (lambda: further(example(), wishes, 7, door, door),
                             lambda: further(down=door, up=door, bell=7, wishes=wishes, house=example())):
                    with self.assertRaises(SameDoor) as caught:
                        call()
                    self.assertEqual(caught.exception.door, door)
                    self.assertIs(type(caught.exception.door), int)
        # A bool is no door's number, though equal to one.
        with self.assertRaises(BadDoor):
            further(example(), KEPT, 7, 1, True)
        with self.assertRaises(BadDoor):
            further(example(), KEPT, 7, True, 1)

    def test_not_kept_comes_last(self):
        some = 0
        for number, house in enumerate(near_houses()):
            wishes = beside(house, mean_of_corners(house, 8, number), number)
            lacks = lot_for(house, wishes, 8)
            if lacks is None:
                continue
            some += 1
            for ask, others in ((further, (0, 1)), (further, (1, 0)), (tight, ()), (bound, (0,))):
                lots = []
                for _ in range(2):
                    with self.assertRaises(NotKept) as caught:
                        ask(house, wishes, 8, *others)
                    self.assertEqual(caught.exception.lot, lacks[0])
                    self.assertIs(type(caught.exception.lot), list)
                    lots.append(caught.exception.lot)
                lots[0].append("more")
                self.assertEqual(lots[1], lacks[0])
            self.assertIsNotNone(times(house, wishes, 8))
            for others in ((0, 9), (-1, 0)):
                with self.assertRaises(BadDoor):
                    further(house, wishes, 8, *others)
            with self.assertRaises(BadDoor):
                bound(house, wishes, 8, 9)
        self.assertGreater(some, 8)

    def test_defined_in_their_file(self):
        for ask in (further, tight, bound, times, whole_times):
            self.assertEqual(ask.__module__, further_file.__name__)


if __name__ == "__main__":
    unittest.main()
