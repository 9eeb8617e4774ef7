import random
import unittest

from lastbell import part
from lastbell.houses import House
from lastbell.kept import lot_for
from lastbell.orders import corner
from lastbell.part import part_for, part_lot
from tests.counted import greatest_part_laid_out, kept_laid_out, most_by_rings, most_laid_out
from tests.made import H_ROADS, all_lots, example
from tests.refusals import a_bell, a_house, judge_names, judge_refusals, judge_unchanged, listed, some_numbers, tupled
from tests.wished import asked_of_lot, far_wished_houses, one_load_more, shut_houses, sorts_of, wished_houses


def made_numbers(house, seed, far=1):
    """Numbers by chance: 0, about what gets through, and far above."""
    chance = random.Random(seed)
    return [chance.choice((0, 1, 2, 3, 5, 8, 40)) * far for _ in house.doors()]


def sums(house, numbers, bell, count):
    """By lots, what gets through, what waits outside, and what is wished in it."""
    found = {}
    for lot in all_lots(house):
        total = count(house, lot, bell)
        for door, sort in enumerate(sorts_of(house)):
            if sort == "in" and door not in lot:
                total += numbers[door]
            if sort == "out" and door in lot:
                total += numbers[door]
        found[tuple(lot)] = total
    return found


def numbered_houses():
    return wished_houses() + shut_houses()[::3]


class ExampleTest(unittest.TestCase):

    def test_all_of_it(self):
        numbers = [12, 4, 11, 5]
        wishes = part_for(example(), numbers, 7)
        self.assertEqual(wishes[0] + wishes[1], 15)
        self.assertEqual(wishes[2] + wishes[3], 15)
        self.assertTrue(all(one <= number for one, number in zip(wishes, numbers)))
        self.assertTrue(kept_laid_out(example(), wishes, 7))
        self.assertEqual(part_lot(example(), numbers, 7), [0, 1])


class PartCase(unittest.TestCase):

    def judge(self, house, numbers, bell, count):
        """Kept, at no door above numbers, and as many as the least sum; that sum's least lot. Tells the sum."""
        name = (house.places(), house.roads(), house.doors(), numbers, bell)
        found = sums(house, numbers, bell, count)
        least = min(found.values())
        wishes = part_for(house, numbers, bell)
        self.assertIs(type(wishes), list)
        self.assertTrue(all(type(one) is int and 0 <= one <= number for one, number in zip(wishes, numbers)), name)
        self.assertEqual(len(wishes), len(numbers))
        for which in ("in", "out"):
            self.assertEqual(sum(one for one, sort in zip(wishes, sorts_of(house)) if sort == which), least, name)
        for lot in all_lots(house):
            self.assertLessEqual(asked_of_lot(house, wishes, lot), count(house, lot, bell), name)
        lots = [set(lot) for lot, total in found.items() if total == least]
        lot = part_lot(house, numbers, bell)
        self.assertEqual(lot, sorted(set.intersection(*lots)), name)
        self.assertIn(set(lot), lots)
        return least


class SmallTest(PartCase):

    def test_against_all_lots(self):
        some = {"nothing": 0, "all that waits": 0, "all that is wished": 0, "less": 0}
        for number, house in enumerate(numbered_houses()):
            for seed in range(3):
                numbers = made_numbers(house, number * 10 + seed)
                told = self.judge(house, numbers, (3, 7, 12)[seed], most_laid_out)
                waits, wished = [sum(one for one, sort in zip(numbers, sorts_of(house)) if sort == which)
                                 for which in ("in", "out")]
                some["nothing" if told == 0 else "all that waits" if told == waits else
                     "all that is wished" if told == wished else "less"] += 1
        self.assertTrue(min(some.values()) > 30, some)

    def test_against_a_greatest_flow(self):
        for number, house in enumerate(numbered_houses()[::2]):
            for seed in range(2):
                numbers = made_numbers(house, number * 10 + seed + 5)
                for bell in (4, 9):
                    wishes = part_for(house, numbers, bell)
                    self.assertEqual(sum(wishes), 2 * greatest_part_laid_out(house, numbers, bell))
                    self.assertTrue(kept_laid_out(house, wishes, bell))

    def test_no_more_could_be(self):
        for number, house in enumerate(numbered_houses()[::3]):
            numbers = made_numbers(house, number)
            wishes = part_for(house, numbers, 8)
            self.assertIsNone(lot_for(house, wishes, 8))
            for door, other, more in one_load_more(house, wishes):
                if more[door] <= numbers[door] and more[other] <= numbers[other]:
                    self.assertIsNotNone(lot_for(house, more, 8))

    def test_wishes_that_are_kept_are_had_whole(self):
        for number, house in enumerate(numbered_houses()[::3]):
            orders = list(range(len(house.doors())))
            random.Random(number).shuffle(orders)
            numbers = corner(house, orders, 8)
            self.assertEqual(part_for(house, numbers, 8), numbers)
            self.judge(house, numbers, 8, most_laid_out)

    def test_numbers_0_and_far_above(self):
        for house in numbered_houses()[::4]:
            none = [0 for _ in house.doors()]
            self.assertEqual(part_for(house, none, 8), none)
            self.assertEqual(part_lot(house, none, 8), [])
            ins = [door for door, sort in enumerate(sorts_of(house)) if sort == "in"]
            wishes = part_for(house, [10 ** 22 for _ in house.doors()], 8)
            self.assertEqual(sum(wishes), 2 * most_laid_out(house, ins, 8))
            for door in range(len(none)):
                self.judge(house, none[:door] + [10 ** 22] + none[door + 1:], 8, most_laid_out)
                self.judge(house, [one + 10 ** 22 for one in none[:door]] + [0] + [9] * (len(none) - door - 1), 8,
                           most_laid_out)

    def test_who_is_ahead_of_whom_changes_nothing_of_the_sum(self):
        """The first doors could take all that others need: still as many go in all as can."""
        house = House(4, [(0, 2, 1, 1), (0, 3, 1, 1), (1, 2, 1, 1)],
                      [("in", 0, 0), ("in", 1, 0), ("out", 2, 0), ("out", 3, 0)])
        for bell in (1, 2, 5):
            for numbers in ([bell, bell, bell, bell], [2 * bell, bell, bell, bell], [9, 9, 1, 9], [9, 9, 9, 1], [1, 9, 9, 9]):
                self.judge(house, numbers, bell, most_laid_out)
        self.assertEqual(part_for(house, [1, 1, 1, 1], 1), [1, 1, 1, 1])

    def test_doors_of_one_sort_alone_and_none(self):
        for doors, lot in (([], []), ([("in", 0, 0), ("in", 1, 2)], [0, 1]), ([("out", 3, 0), ("out", 4, 0)], [])):
            house = House(5, H_ROADS, doors)
            for number in (0, 3, 10 ** 22):
                for bell in (0, 9):
                    self.assertEqual(part_for(house, [number for _ in doors], bell), [0 for _ in doors])
                    self.assertEqual(part_lot(house, [number for _ in doors], bell), lot if number else [])


class FarTest(PartCase):

    def test_far(self):
        some = 0
        for number, house in enumerate(far_wished_houses()):
            for far, bell in ((1, 10 ** 9), (10 ** 9, 3 * 10 ** 9), (10 ** 18, 10 ** 12), (10 ** 20, 10 ** 12)):
                some += self.judge(house, made_numbers(house, number, far), bell, most_by_rings) > 0
        self.assertGreater(some, 40)


class KindsTest(unittest.TestCase):

    def test_kinds(self):
        for number, house in enumerate(numbered_houses()[::9]):
            again = House(house.places(), tupled(house.roads()), listed(house.doors()))
            numbers = made_numbers(house, number)
            for ask in (part_for, part_lot):
                judge_unchanged(self, ask, [house, numbers, 7])
                self.assertEqual(ask(again, tuple(numbers), 7), ask(house, numbers, 7))
                self.assertIs(type(ask(house, numbers, 7)), list)

    def test_refused(self):
        parameters = [a_house(), some_numbers(), a_bell()]
        for ask in (part_for, part_lot):
            judge_refusals(self, ask, parameters)
            judge_names(self, ask, parameters)

    def test_need_not_be_as_many_in_all(self):
        self.assertEqual(part_for(example(), [5, 0, 9, 0], 7), [5, 0, 5, 0])
        self.assertEqual(part_for(example(), [9, 0, 5, 0], 7), [5, 0, 5, 0])
        self.assertEqual(part_lot(example(), [5, 0, 9, 0], 7), [])
        self.assertEqual(part_lot(example(), [9, 0, 5, 0], 7), [0, 2, 3])

    def test_defined_in_their_file(self):
        for ask in (part_for, part_lot):
            self.assertEqual(ask.__module__, part.__name__)


if __name__ == "__main__":
    unittest.main()
