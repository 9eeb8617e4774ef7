"""Houses in which nobody gets through: all functions."""

import unittest
from itertools import permutations

from lastbell.alike import first_unlike, parting
from lastbell.bells import bell_with, least_bell, never, rising
from lastbell.dearest import dearest, dearest_order
from lastbell.desk import Desk
from lastbell.errors import Lacks, Never, NotKept
from lastbell.further import bound, further, tight, times, whole_times
from lastbell.houses import House
from lastbell.kept import asked, is_lot_for, is_plan_for, lacking, lot_for
from lastbell.lots import levels, lot_bell, most, most_plan, steady
from lastbell.mixes import is_mix_for, mix_for
from lastbell.moments import is_moments, moments_for, worth
from lastbell.orders import corner, corners, order_of, plan_by_order
from lastbell.part import part_for, part_lot
from lastbell.parts import parted
from lastbell.plans import bell_of, brings, is_plan, on_roads
from lastbell.rows import is_row_for, plan_for, row_for
from lastbell.turned import turned, turned_plan
from tests.made import H_ROADS, all_lots
from tests.wished import asked_of_lot, sorts_of

BELLS = (0, 7, 10 ** 12)


def one_sided():
    """Without doors, with INS alone, with OUTS alone."""
    found = [House(1, [], []), House(5, H_ROADS, [])]
    for sort in ("in", "out"):
        for doors in ([(sort, 0, 0)], [(sort, 0, 10 ** 9), (sort, 3, 0)], [(sort, 0, 0), (sort, 0, 0), (sort, 2, 4)],
                      [(sort, place, place) for place in range(5)]):
            found.append(House(5, H_ROADS, doors))
    return found


def two_sided():
    """With INS and OUTS, and no way from any to any."""
    doors = [("in", 0, 0), ("in", 1, 1), ("out", 3, 0), ("out", 4, 1)]
    back = [(end, begin, length, room) for begin, end, length, room in H_ROADS]
    return [House(5, [], doors), House(5, back, doors), House(5, [(0, 1, 0, 5), (3, 4, 1, 1), (2, 3, 0, 1)], doors),
            House(5, H_ROADS, [("out", 0, 0), ("in", 3, 0), ("out", 0, 10 ** 9), ("in", 4, 2), ("out", 1, 0)]),
            House(3, [(0, 1, 1, 10 ** 9), (1, 0, 1, 10 ** 9)], [("out", 2, 0), ("in", 0, 0)])]


def nobody(house):
    return [[] for _ in house.doors()], [[] for _ in house.roads()]


def none_of(house):
    return [0 for _ in house.doors()]


class AllTest(unittest.TestCase):

    def test_lots_and_moments(self):
        for house in one_sided() + two_sided():
            for lot in all_lots(house):
                self.assertEqual(levels(house, lot), [])
                self.assertEqual(steady(house, lot), 0)
                self.assertEqual(lot_bell(house, lot, 0), 0)
                for amount in (1, 10 ** 21):
                    self.assertIsNone(lot_bell(house, lot, amount), "any load is a lot, for ever")
                for bell in BELLS:
                    self.assertEqual(most(house, lot, bell), 0)
                    self.assertEqual(most_plan(house, lot, bell), nobody(house))
                    moments = moments_for(house, lot, bell)
                    self.assertTrue(is_moments(house, lot, bell, moments))
                    self.assertEqual(worth(house, moments), 0)

    def test_plans_and_orders(self):
        for house in one_sided() + two_sided():
            orders = [list(order) for order in permutations(range(len(house.doors())))]
            for bell in BELLS:
                for order in orders[:6]:
                    self.assertEqual(plan_by_order(house, order, bell), nobody(house))
                    self.assertEqual(corner(house, order, bell), none_of(house))
                self.assertEqual(corners(house, bell), [none_of(house)])
                self.assertEqual(order_of(house, none_of(house), bell), orders[0])
            self.assertTrue(is_plan(house, nobody(house)))
            self.assertEqual(brings(house, nobody(house)), none_of(house))
            self.assertEqual(bell_of(house, nobody(house)), 0)
            self.assertEqual(on_roads(house, nobody(house), 5), [0 for _ in house.roads()])

    def test_nobody_is_kept(self):
        for house in one_sided() + two_sided():
            none = none_of(house)
            for bell in BELLS:
                self.assertEqual(lacking(house, none, bell), [])
                self.assertIsNone(lot_for(house, none, bell))
                self.assertEqual(plan_for(house, none, bell), nobody(house))
                self.assertTrue(is_plan_for(house, none, bell, nobody(house)))
                row, mix = row_for(house, none, bell), mix_for(house, none, bell)
                self.assertEqual(row[0], [])
                self.assertEqual(len(mix), 1)
                self.assertTrue(is_row_for(house, none, bell, row))
                self.assertTrue(is_mix_for(house, none, bell, mix))
                self.assertEqual(tight(house, none, bell), sorted(all_lots(house)))
                self.assertIsNone(times(house, none, bell))
                self.assertIsNone(whole_times(house, none, bell))
                for door in range(len(none)):
                    self.assertEqual(bound(house, none, bell, door), [door])
                    for other in range(len(none)):
                        if other != door:
                            self.assertEqual(further(house, none, bell, door, other), 0)
            self.assertEqual(least_bell(house, none), 0)
            self.assertIsNone(never(house, none))
            self.assertEqual(rising(house, none), [(0, None)])
            self.assertEqual(asked(house, none, list(range(len(none)))), 0)

    def test_as_much_as_can_be(self):
        for house in one_sided() + two_sided():
            ins = [door for door, sort in enumerate(sorts_of(house)) if sort == "in"]
            for number in (0, 3, 10 ** 22):
                self.assertEqual(part_for(house, [number for _ in house.doors()], 9), none_of(house))
                self.assertEqual(part_lot(house, [number for _ in house.doors()], 9), ins if number else [])

    def test_prices(self):
        for house in one_sided() + two_sided():
            many = len(house.doors())
            for prices in ([10 ** 6] * many, [-5] * many, list(range(many))):
                self.assertEqual(dearest(house, 9, prices), 0)
                self.assertEqual(sorted(dearest_order(house, 9, prices)), list(range(many)))

    def test_turned_and_parted(self):
        for house in one_sided() + two_sided():
            about = turned(house)
            self.assertEqual(turned(about), house)
            parts = [(door, 3, 2) for door in range(len(house.doors()))]
            for other in (about, parted(house, parts)):
                for lot in ([], [0][:len(house.doors())], list(range(len(other.doors())))):
                    self.assertEqual(levels(other, lot), [])
            self.assertEqual(turned_plan(house, nobody(house), 7), nobody(house))
            bare = House(house.places(), [], house.doors())
            self.assertIsNone(first_unlike(house, bare))
            self.assertIsNone(parting(house, bare))

    def test_desks(self):
        for house in one_sided() + two_sided():
            desk = Desk(house, 7)
            self.assertEqual(desk.wishes(), none_of(house))
            self.assertEqual(desk.plan(), nobody(house))
            self.assertIs(desk.undo(), False)
            desk.ring(0)
            self.assertIs(desk.undo(), True)
            self.assertIs(desk.again(), True)
            self.assertEqual(desk, desk.copy())
            for door, sort in enumerate(sorts_of(house)):
                for other, other_sort in enumerate(sorts_of(house)):
                    if (sort, other_sort) == ("in", "out"):
                        self.assertEqual(desk.left(door, other), 0)
                        with self.assertRaises(Lacks) as caught:
                            desk.book(door, other, 1)
                        self.assertEqual((caught.exception.lot, caught.exception.left), ([door], 0))


class WishedTest(unittest.TestCase):
    """Any load is a lot for ever."""

    def wishes(self, house):
        ins = [door for door, sort in enumerate(sorts_of(house)) if sort == "in"]
        outs = [door for door, sort in enumerate(sorts_of(house)) if sort == "out"]
        for loads in (1, 10 ** 21):
            for some in (ins[:1], ins):
                for others in (outs[:1], outs[-1:]):
                    wishes = none_of(house)
                    for door in some:
                        wishes[door] += loads
                        wishes[others[0]] += loads
                    yield wishes, sorted(some)

    def test_wished(self):
        for house in two_sided():
            for wishes, lot in self.wishes(house):
                waits = asked_of_lot(house, wishes, lot)
                for bell in BELLS:
                    found, moments = lot_for(house, wishes, bell)
                    self.assertEqual(found, lot)
                    self.assertTrue(is_lot_for(house, wishes, bell, (found, moments)))
                    self.assertEqual(min(lacking(house, wishes, bell), key=len), lot)
                    for ask in (plan_for, row_for, mix_for, order_of):
                        self.assertIsNone(ask(house, wishes, bell))
                    self.assertEqual(times(house, wishes, bell), (0, 1))
                    self.assertEqual(whole_times(house, wishes, bell), 0)
                    self.assertEqual(part_for(house, wishes, bell), none_of(house))
                    self.assertEqual(part_lot(house, wishes, bell), lot)
                    for call in (lambda: tight(house, wishes, bell), lambda: bound(house, wishes, bell, 0),
                                 lambda: further(house, wishes, bell, 0, 1)):
                        with self.assertRaises(NotKept) as caught:
                            call()
                        self.assertEqual(caught.exception.lot, lot)
                self.assertGreater(waits, 0)
                self.assertIsNone(least_bell(house, wishes))
                self.assertEqual(never(house, wishes), lot)
                with self.assertRaises(Never) as caught:
                    rising(house, wishes)
                self.assertEqual(caught.exception.lot, lot)
                door = lot[0]
                other = [at for at, sort in enumerate(sorts_of(house)) if sort == "out"][0]
                self.assertIsNone(bell_with(house, wishes, door, other))
                self.assertIsNone(bell_with(house, none_of(house), door, other))


if __name__ == "__main__":
    unittest.main()
