import unittest

from lastbell import bells
from lastbell.bells import bell_with, least_bell, never, rising
from lastbell.errors import BadDoor, Never
from lastbell.houses import House
from lastbell.kept import lot_for
from lastbell.lots import levels, lot_bell
from tests.counted import kept_laid_out, most_by_rings
from tests.made import H_ROADS, all_lots, example
from tests.refusals import Parameter, a_house, judge_names, judge_refusals, judge_unchanged, some_wishes
from tests.things import a_function, deep, example_house, no_numbers
from tests.wished import (asked_of_lot, far_wished_houses, kept_wishes, made_wishes, one_load_more, shut_houses,
                          wished_houses)


def gets_through(house, lot):
    """Whether one comes by roads from an IN of the lot to an OUT that is not of it."""
    doors = house.doors()
    waiting = [doors[door][1] for door in lot if doors[door][0] == "in"]
    seen = set(waiting)
    while waiting:
        here = waiting.pop()
        for begin, end, _, _ in house.roads():
            if begin == here and end not in seen:
                seen.add(end)
                waiting.append(end)
    return any(sort == "out" and place in seen and door not in lot for door, (sort, place, _) in enumerate(doors))


def never_walked(house, wishes):
    """By a walk along roads: the lots of which the most is asked of those through which nobody gets."""
    shut = [(asked_of_lot(house, wishes, lot), lot) for lot in all_lots(house) if not gets_through(house, lot)]
    worst = max(amount for amount, _ in shut)
    if worst <= 0:
        return None
    return sorted(set.intersection(*[set(lot) for amount, lot in shut if amount == worst]))


def all_wishes():
    """Houses with wishes, among them ones that can never be."""
    found = []
    for number, house in enumerate(wished_houses() + shut_houses()):
        found.extend((house, made_wishes(house, number * 10 + seed)) for seed in range(3))
    return found


def far_wishes():
    found = []
    for number, house in enumerate(far_wished_houses()):
        found.extend((house, made_wishes(house, number * 10 + at, far))
                     for at, far in enumerate((1, 10 ** 9, 10 ** 18, 10 ** 20)))
    return found


class ExampleTest(unittest.TestCase):

    def test_all_numbers(self):
        self.assertEqual(least_bell(example(), [12, 4, 11, 5]), 8)
        self.assertEqual(rising(example(), [12, 4, 11, 5]), [(0, [0, 1]), (8, None)])
        self.assertEqual(least_bell(example(), [10, 5, 10, 5]), 7)
        self.assertEqual(bell_with(example(), [10, 5, 10, 5], 0, 2), 8)
        self.assertIsNone(never(example(), [12, 4, 11, 5]))


class LeastBellTest(unittest.TestCase):

    def test_kept_by_it_and_not_one_turn_ahead(self):
        told = {"never": 0, "at once": 0, "later": 0}
        for house, wishes in all_wishes():
            bell = least_bell(house, wishes)
            if bell is None:
                told["never"] += 1
                self.assertIsNotNone(lot_for(house, wishes, 10 ** 12))
                continue
            self.assertIs(type(bell), int)
            self.assertIsNone(lot_for(house, wishes, bell))
            self.assertTrue(kept_laid_out(house, wishes, bell), (house.roads(), house.doors(), wishes, bell))
            told["later" if bell else "at once"] += 1
            if bell > 0:
                self.assertIsNotNone(lot_for(house, wishes, bell - 1))
                self.assertFalse(kept_laid_out(house, wishes, bell - 1))
            for later in (bell + 1, bell + 7, 10 ** 12):
                self.assertIsNone(lot_for(house, wishes, later))
        self.assertTrue(min(told.values()) > 100, told)

    def test_the_greatest_bell_of_lots(self):
        for house, wishes in all_wishes()[::3] + far_wishes():
            found = [0]
            for lot in all_lots(house):
                if asked_of_lot(house, wishes, lot) > 0:
                    found.append(lot_bell(house, lot, asked_of_lot(house, wishes, lot)))
            self.assertEqual(least_bell(house, wishes), None if None in found else max(found))

    def test_far(self):
        kept = 0
        for house, wishes in far_wishes():
            bell = least_bell(house, wishes)
            if bell:
                kept += 1
                for lot in all_lots(house):
                    self.assertGreaterEqual(most_by_rings(house, lot, bell), asked_of_lot(house, wishes, lot))
                self.assertTrue(any(most_by_rings(house, lot, bell - 1) < asked_of_lot(house, wishes, lot)
                                    for lot in all_lots(house)))
        self.assertGreater(kept, 20)

    def test_what_streams_bring_is_kept_by_their_bell(self):
        sooner = 0
        for seed in range(100):
            house, wishes, bell, _ = kept_wishes(seed)
            self.assertLessEqual(least_bell(house, wishes), bell)
            sooner += least_bell(house, wishes) < bell
        self.assertGreater(sooner, 10)

    def test_nobody_wished(self):
        for house in [example()] + wished_houses()[::8] + [House(5, H_ROADS, []), House(1, [], [("in", 0, 9)] * 3)]:
            wishes = [0 for _ in house.doors()]
            self.assertEqual(least_bell(house, wishes), 0)
            self.assertIsNone(never(house, wishes))
            self.assertEqual(rising(house, wishes), [(0, None)])

    def test_hours_hold_up(self):
        house = House(2, [(0, 1, 3, 2)], [("in", 0, 4), ("out", 1, 5)])
        self.assertEqual([least_bell(house, [loads, loads]) for loads in range(6)], [0, 12, 12, 13, 13, 14])


class NeverTest(unittest.TestCase):

    def test_walked_along_roads(self):
        told = {True: 0, False: 0}
        sizes = set()
        for house, wishes in all_wishes() + far_wishes():
            lot = never(house, wishes)
            self.assertEqual(lot, never_walked(house, wishes), (house.roads(), house.doors(), wishes))
            self.assertIs(least_bell(house, wishes) is None, lot is not None)
            told[lot is None] += 1
            if lot is not None:
                sizes.add(len(lot))
                self.assertIs(type(lot), list)
                self.assertEqual(levels(house, lot), [])
        self.assertTrue(min(told.values()) > 100, told)
        self.assertGreaterEqual(len(sizes), 3)

    def test_of_several_the_least(self):
        house = House(4, [(0, 1, 1, 1)], [("in", 2, 0), ("in", 0, 0), ("out", 1, 0), ("out", 3, 0)])
        self.assertEqual(never(house, [3, 2, 2, 3]), [0])
        self.assertEqual(never(house, [0, 2, 1, 1]), [1, 2])
        self.assertEqual(never(house, [1, 2, 2, 1]), [0])
        self.assertEqual(never(house, [3, 2, 1, 4]), [0, 1, 2])
        self.assertIsNone(never(house, [0, 2, 2, 0]))
        roadless = House(2, [], [("in", 0, 0), ("in", 0, 5), ("out", 1, 0)])
        self.assertEqual(never(roadless, [3, 0, 3]), [0])
        self.assertEqual(never(roadless, [0, 3, 3]), [1])
        self.assertEqual(never(roadless, [1, 3, 4]), [0, 1])
        self.assertIsNone(never(roadless, [0, 0, 0]))


class RisingTest(unittest.TestCase):

    def test_pair_by_pair(self):
        lengths = {}
        for house, wishes in all_wishes() + far_wishes():
            if never(house, wishes) is not None:
                continue
            told = rising(house, wishes)
            lengths[len(told)] = lengths.get(len(told), 0) + 1
            self.assertEqual(told[0][0], 0)
            for at, (bell, lot) in enumerate(told):
                found = lot_for(house, wishes, bell)
                self.assertEqual(lot, found[0] if found else None)
                if lot is not None:
                    self.assertEqual(told[at + 1][0], lot_bell(house, lot, asked_of_lot(house, wishes, lot)))
                    self.assertLess(bell, told[at + 1][0])
            self.assertEqual(told[-1], (least_bell(house, wishes), None))
            self.assertNotIn(None, [lot for _, lot in told[:-1]])
            lots = [lot for _, lot in told[:-1]]
            self.assertTrue(all(lot not in lots[:at] for at, lot in enumerate(lots)))
        self.assertTrue(lengths[2] > 50 and lengths[3] > 5, lengths)

    def test_never(self):
        refused = 0
        for house, wishes in all_wishes() + far_wishes():
            lot = never(house, wishes)
            if lot is not None:
                refused += 1
                raised = []
                for _ in range(2):
                    with self.assertRaises(Never) as caught:
                        rising(house, wishes)
                    raised.append(caught.exception.lot)
                self.assertEqual(raised, [lot, lot])
                self.assertIsNot(raised[0], raised[1])
        self.assertGreater(refused, 100)

    def test_kinds(self):
        for house, wishes in all_wishes()[::40]:
            if never(house, wishes) is None:
                judge_unchanged(self, rising, [house, wishes])
                self.assertIs(type(rising(house, wishes)), list)
                for pair in rising(house, wishes):
                    self.assertIs(type(pair), tuple)
                    self.assertTrue(pair[1] is None or type(pair[1]) is list)
            judge_unchanged(self, never, [house, wishes])
            judge_unchanged(self, least_bell, [house, wishes])


class BellWithTest(unittest.TestCase):

    def test_one_load_more(self):
        told = {"none": 0, "same": 0, "later": 0}
        for house, wishes in all_wishes()[::2] + far_wishes():
            for door, other, more in one_load_more(house, wishes):
                kept = list(wishes)
                bell = bell_with(house, wishes, door, other)
                self.assertEqual(wishes, kept)
                self.assertEqual(bell, least_bell(house, more))
                self.assertEqual(bell_with(house, tuple(wishes), door, other), bell)
                told["none" if bell is None else "same" if bell == least_bell(house, wishes) else "later"] += 1
        self.assertTrue(min(told.values()) > 50, told)

    def test_bad_doors(self):
        """Of both parameters, with wishes that are kept and ones that never are."""
        house, lone = example(), House(2, [], [("in", 0, 0), ("in", 0, 1), ("out", 1, 0), ("out", 1, 1)])
        no_doors = no_numbers() + [4, 5, 10 ** 9, -1, deep(3), a_function, example_house()]
        for one, wishes in ((house, [12, 4, 11, 5]), (lone, [1, 0, 1, 0])):
            for thing in no_doors + [2, 3]:
                self.refused(thing, (one, wishes, thing, 2))
                self.refused(thing, (one, wishes, thing, None))
                self.refused(thing, (one, wishes, thing, 0))
            for thing in no_doors + [0, 1]:
                for door in (0, 1):
                    self.refused(thing, (one, wishes, door, thing))

    def refused(self, thing, passed):
        names = ("house", "wishes", "door", "other")
        for call in (lambda: bell_with(*passed), lambda: bell_with(**dict(zip(names, passed)))):
            with self.assertRaises(BadDoor) as caught:
                call()
            self.assertIs(type(caught.exception), BadDoor)
            self.assertIs(caught.exception.door, thing)

    def test_houses_without_doors_of_a_sort(self):
        for doors, door, other, wrong in (([], 0, 1, 0), ([("in", 0, 0)], 0, 0, 0), ([("out", 0, 0)], 0, 0, 0),
                                          ([("in", 0, 0), ("in", 1, 0)], 0, 1, 1)):
            with self.assertRaises(BadDoor) as caught:
                bell_with(House(5, H_ROADS, doors), [0 for _ in doors], door, other)
            self.assertEqual(caught.exception.door, wrong)

    def test_refused(self):
        doors = [Parameter("door", 0, [2, None, True, 4], BadDoor), Parameter("other", 2, [1, None, "2", 4], BadDoor, "door")]
        judge_refusals(self, bell_with, [a_house(), some_wishes(), *doors])
        judge_names(self, bell_with, [a_house(), some_wishes(), *doors])
        for ask in (least_bell, never, rising):
            judge_refusals(self, ask, [a_house(), some_wishes()])
            judge_names(self, ask, [a_house(), some_wishes()])

    def test_defined_in_their_file(self):
        for ask in (least_bell, never, rising, bell_with):
            self.assertEqual(ask.__module__, bells.__name__)


if __name__ == "__main__":
    unittest.main()
