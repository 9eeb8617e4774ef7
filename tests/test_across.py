"""One house, all answers held against one another; and houses that are one house otherwise told."""

import random
import unittest
from itertools import product

from lastbell.alike import first_unlike, parting
from lastbell.bells import bell_with, least_bell, never
from lastbell.desk import Desk
from lastbell.errors import Lacks
from lastbell.further import bound, further, tight, times, whole_times
from lastbell.houses import House
from lastbell.kept import is_lot_for, is_plan_for, lacking, lot_for
from lastbell.mixes import is_mix_for, mix_for
from lastbell.orders import corner, order_of
from lastbell.part import part_for, part_lot
from lastbell.rows import is_row_for, plan_for, row_for
from lastbell.turned import turned, turned_plan
from tests.judged import brought, fault_by_bell, fault_of_plan
from tests.means import TOP, beside, far_houses, made_order, mean_of_corners, near_houses
from tests.wished import asked_of_lot, made_wishes, one_load_more, shut_houses, sorts_of


def all_houses():
    """Pairs of a house and a bell, small and far."""
    found = [(house, (5, 9)[number % 2]) for number, house in enumerate((near_houses() + shut_houses()[::6])[::2])]
    found += [(house, (2 * TOP, 10 ** 12)[number % 2]) for number, house in enumerate(far_houses()[::4])]
    return found


def some_wishes():
    """Triples of a house, wishes, and a bell: of each house some that are kept and some that are not."""
    found = []
    for number, (house, bell) in enumerate(all_houses()):
        far = 1 if bell < TOP else bell
        wishes = mean_of_corners(house, bell, number)
        found += [(house, wishes, bell), (house, beside(house, wishes, number), bell),
                  (house, made_wishes(house, number, far), bell)]
    return found


def hours_as_roads(house):
    """Each door at a place of its own, with a road as long as its hour and wider than all others."""
    places, roads, doors = house.places(), house.roads(), []
    wide = 1 + sum(room for _, _, _, room in roads)
    for sort, place, hour in house.doors():
        roads.append((places, place, hour, wide) if sort == "in" else (place, places, hour, wide))
        doors.append((sort, places, 0))
        places += 1
    return House(places, roads, doors)


def roads_in_two(house, seed):
    """Some roads parted in two by a place of its own."""
    chance = random.Random(seed)
    places, roads = house.places(), []
    for begin, end, length, room in house.roads():
        if chance.random() < 0.4:
            ahead = chance.randint(0, length)
            roads += [(begin, places, ahead, room), (places, end, length - ahead, room)]
            places += 1
        else:
            roads.append((begin, end, length, room))
    return House(places, roads, house.doors())


def roads_side_by_side(house, seed):
    """Some wide roads as two that are as wide together."""
    chance = random.Random(seed)
    roads = []
    for begin, end, length, room in house.roads():
        some = chance.randint(1, room)
        roads += [(begin, end, length, one) for one in (some, room - some) if one]
    chance.shuffle(roads)
    return House(house.places(), roads, house.doors())


def renumbered(house, seed):
    """Its places with other numbers, some that lead nowhere, its roads in another order."""
    chance = random.Random(seed)
    places = chance.sample(range(house.places() + 2), house.places())
    roads = [(places[begin], places[end], length, room) for begin, end, length, room in house.roads()]
    chance.shuffle(roads)
    return House(house.places() + 2, roads, [(sort, places[place], hour) for sort, place, hour in house.doors()])


class AcrossTest(unittest.TestCase):

    def answers(self, house, wishes, bell):
        """Whether wishes are kept, as each of the functions tells it."""
        whole = whole_times(house, wishes, bell)
        told = [plan_for(house, wishes, bell) is not None, lot_for(house, wishes, bell) is None,
                row_for(house, wishes, bell) is not None, mix_for(house, wishes, bell) is not None,
                not lacking(house, wishes, bell), part_for(house, wishes, bell) == wishes,
                whole is None or whole >= 1, plan_for(turned(house), wishes, bell) is not None,
                lot_for(hours_as_roads(house), wishes, bell) is None]
        least = least_bell(house, wishes)
        return told + [least is not None and least <= bell]

    def test_kept_or_not_by_all_of_them(self):
        seen = {True: 0, False: 0}
        for house, wishes, bell in some_wishes():
            told = self.answers(house, wishes, bell)
            self.assertEqual(len(set(told)), 1, (told, house.roads(), house.doors(), wishes, bell))
            seen[told[0]] += 1
            if told[0]:
                self.judge_kept(house, wishes, bell)
            else:
                self.judge_not_kept(house, wishes, bell)
        self.assertTrue(min(seen.values()) > 30, seen)

    def judge_kept(self, house, wishes, bell):
        plan, row, mix = plan_for(house, wishes, bell), row_for(house, wishes, bell), mix_for(house, wishes, bell)
        self.assertTrue(is_plan_for(house, wishes, bell, plan))
        self.assertTrue(is_row_for(house, wishes, bell, row))
        self.assertTrue(is_mix_for(house, wishes, bell, mix))
        self.assertIsNone(never(house, wishes))
        self.assertTrue(is_plan_for(turned(house), wishes, bell, turned_plan(house, plan, bell)))
        self.assertEqual(turned_plan(turned(house), turned_plan(house, plan, bell), bell), plan)
        for lot in tight(house, wishes, bell):
            self.assertEqual(brought_out_of(house, lot, plan), asked_of_lot(house, wishes, lot))
        self.assertEqual(order_of(house, wishes, bell) is None, bool(row[0]))
        desk = Desk(house, bell)
        book_all(desk, wishes)
        self.assertEqual(desk.wishes(), wishes)
        self.assertEqual(desk.plan(), plan)

    def judge_not_kept(self, house, wishes, bell):
        lot, moments = lot_for(house, wishes, bell)
        self.assertTrue(is_lot_for(house, wishes, bell, (lot, moments)))
        told = part_for(house, wishes, bell)
        self.assertLess(sum(told), sum(wishes))
        self.assertEqual(part_lot(house, wishes, bell), lot, "what lacks by the most is what cannot be")
        self.assertIsNotNone(plan_for(house, told, bell))
        desk = Desk(house, bell)
        with self.assertRaises(Lacks):
            book_all(desk, wishes)

    def test_from_the_least_bell_on(self):
        for number, (house, wishes, _) in enumerate(some_wishes()[::2]):
            least = least_bell(house, wishes)
            if least is None:
                self.assertIsNotNone(never(house, wishes))
                self.assertEqual(set(self.answers(house, wishes, 10 ** 12)), {False})
                continue
            self.assertEqual(set(self.answers(house, wishes, least)), {True})
            plan = plan_for(house, wishes, least)
            self.assertIsNone(fault_of_plan(house, plan) or fault_by_bell(house, plan, least))
            self.assertEqual([brought(steps) for steps in plan[0]], wishes)
            for bell in (least + 1, 2 * least + 5):
                self.assertIsNone(lot_for(house, wishes, bell))
            if least:
                self.assertEqual(set(self.answers(house, wishes, least - 1)), {False})

    def test_a_mean_of_two_kept_wishes_is_brought_in_whole_loads(self):
        halves = 0
        for number, (house, bell) in enumerate(all_houses()):
            chance = random.Random(number)
            first = corner(house, made_order(house, chance), bell)
            second = mean_of_corners(house, bell, number)
            if lot_for(house, second, bell) is not None:
                second = corner(house, made_order(house, chance), bell)
            odd = [door for door in range(len(first)) if (first[door] + second[door]) % 2]
            halves += bool(odd)
            found = 0
            for ups in product((0, 1), repeat=len(odd)):
                wishes = [(one + other) // 2 for one, other in zip(first, second)]
                for door, up in zip(odd, ups):
                    wishes[door] += up
                if asked_of_lot(house, wishes, range(len(wishes))) == 0 and lot_for(house, wishes, bell) is None:
                    found += 1
                    plan = plan_for(house, wishes, bell)
                    self.assertIsNone(fault_of_plan(house, plan) or fault_by_bell(house, plan, bell))
                    self.assertEqual([brought(steps) for steps in plan[0]], wishes)
            self.assertGreater(found, 0)
        self.assertGreater(halves, 20)

    def test_what_part_for_tells_is_brought(self):
        for number, (house, bell) in enumerate(all_houses()):
            numbers = [one + (number % 3) * one // 2 + 1 for one in mean_of_corners(house, bell, number)]
            told = part_for(house, numbers, bell)
            plan = plan_for(house, told, bell)
            self.assertIsNone(fault_of_plan(house, plan) or fault_by_bell(house, plan, bell))
            self.assertEqual([brought(steps) for steps in plan[0]], told)
            for door, other, more in one_load_more(house, told):
                if more[door] <= numbers[door] and more[other] <= numbers[other]:
                    self.assertIsNone(plan_for(house, more, bell))

    def test_one_load_more_and_further(self):
        some = {True: 0, False: 0}
        for house, wishes, bell in some_wishes()[::2]:
            least = least_bell(house, wishes)
            if least is not None:
                for door, other, more in one_load_more(house, wishes):
                    later = bell_with(house, wishes, door, other)
                    self.assertEqual(later, least_bell(house, more))
                    could = further(house, wishes, least, door, other) > 0
                    some[could] += 1
                    self.assertEqual(later is not None and later <= least, could)
                    self.assertEqual(other in bound(house, wishes, least, door), could)
        self.assertTrue(min(some.values()) > 30, some)

    def test_booked_out_is_the_lot_that_lacks(self):
        for number, (house, bell) in enumerate(all_houses()):
            wishes = mean_of_corners(house, bell, number)
            if lot_for(house, wishes, bell) is not None:
                continue
            desk = Desk(house, bell)
            book_all(desk, wishes)
            for door, other, _ in one_load_more(house, wishes):
                left = further(house, wishes, bell, door, other)
                self.assertEqual(desk.left(door, other), left)
                for loads in (left + 1, left + 7):
                    with self.assertRaises(Lacks) as caught:
                        desk.book(door, other, loads)
                    more = list(wishes)
                    more[door] += loads
                    more[other] += loads
                    self.assertEqual((caught.exception.lot, caught.exception.left), (lot_for(house, more, bell)[0], left))
                self.assertEqual(desk.wishes(), wishes)


class OtherwiseToldTest(unittest.TestCase):

    def judge_alike(self, house, other, number):
        """The two keep the same wishes, by all bells."""
        self.assertIsNone(first_unlike(house, other))
        self.assertIsNone(first_unlike(other, house))
        self.assertIsNone(parting(house, other))
        bell = 9 if max([0] + [road[2] for road in house.roads()]) < TOP // 9 else 10 ** 11
        wishes = mean_of_corners(house, bell, number)
        for some in (wishes, beside(house, wishes, number), made_wishes(house, number, max(1, bell // 20))):
            self.assertEqual(least_bell(other, some), least_bell(house, some))
            self.assertEqual(lacking(other, some, bell), lacking(house, some, bell))
            self.assertEqual(times(other, some, bell), times(house, some, bell))
            plan = plan_for(other, some, bell)
            self.assertEqual(plan is None, plan_for(house, some, bell) is None)
            if plan is not None:
                self.assertIsNone(fault_of_plan(other, plan) or fault_by_bell(other, plan, bell))
        return bell

    def pairs(self):
        return [(number, house) for number, (house, _) in enumerate(all_houses()) if house.doors()][::2]

    def test_hours_as_roads(self):
        for number, house in self.pairs():
            self.judge_alike(house, hours_as_roads(house), number)

    def test_a_road_parted_in_two_by_a_place(self):
        for number, house in self.pairs():
            self.judge_alike(house, roads_in_two(house, number), number)

    def test_roads_side_by_side_are_one_wide_road(self):
        for number, house in self.pairs():
            self.judge_alike(house, roads_side_by_side(house, number), number)

    def test_other_numbers(self):
        for number, house in self.pairs():
            self.judge_alike(house, renumbered(house, number), number)

    def test_two_doors_alike_keep_of_both_what_one_keeps(self):
        chance = random.Random(7)
        seen = {True: 0, False: 0}
        for number, house in self.pairs():
            bell = 9 if number < 40 else 10 ** 11
            door = chance.randrange(len(house.doors()))
            twice = House(house.places(), house.roads(), house.doors() + [house.doors()[door]])
            wishes = mean_of_corners(house, bell, number)
            for some in (wishes, beside(house, wishes, number)):
                kept = lot_for(house, some, bell) is None
                seen[kept] += 1
                for part in {0, some[door] // 3, some[door]}:
                    parts = some[:door] + [some[door] - part] + some[door + 1:] + [part]
                    self.assertEqual(lot_for(twice, parts, bell) is None, kept)
                    plan = plan_for(twice, parts, bell)
                    self.assertEqual(plan is not None, kept)
                    if kept:
                        self.assertIsNone(fault_of_plan(twice, plan) or fault_by_bell(twice, plan, bell))
                    self.assertEqual(least_bell(twice, parts), least_bell(house, some))
        self.assertTrue(min(seen.values()) > 3, seen)


class TimesTest(unittest.TestCase):

    def test_lengths_and_rooms_times_as_much(self):
        """[13.2], in what is told of wishes."""
        for number, house in enumerate(near_houses()[::3]):
            many = 10 ** 7 + number
            long = House(house.places(), [(*road[:2], road[2] * many, road[3]) for road in house.roads()],
                         [(sort, place, hour * many) for sort, place, hour in house.doors()])
            wide = House(house.places(), [(*road[:3], road[3] * many) for road in house.roads()], house.doors())
            wishes = mean_of_corners(house, 8, number)
            more = [one * many for one in wishes]
            self.assertEqual(lacking(long, more, 9 * many - 1), lacking(house, wishes, 8))
            self.assertEqual(lacking(wide, more, 8), lacking(house, wishes, 8))
            self.assertEqual(plan_for(wide, more, 8) is None, plan_for(house, wishes, 8) is None)
            self.assertEqual(times(long, more, 9 * many - 1), times(house, wishes, 8))


def brought_out_of(house, lot, plan):
    """What leaves the INS of a lot less what is taken at its OUTS."""
    return sum(brought(plan[0][door]) * (1 if sorts_of(house)[door] == "in" else -1) for door in lot)


def book_all(desk, wishes):
    """Books the wishes, as much as can be at two doors at once, as is always possible where they are kept."""
    left = list(wishes)
    sorts = sorts_of(desk.house())
    while any(left):
        before = list(left)
        for door, other in product(range(len(sorts)), repeat=2):
            if (sorts[door], sorts[other]) == ("in", "out"):
                # A load of each may be booked just if what then is left could still be kept.
                loads = min(left[door], left[other], desk.left(door, other))
                if loads:
                    desk.book(door, other, loads)
                    left[door] -= loads
                    left[other] -= loads
        if left == before:
            door = [door for door, sort in enumerate(sorts) if sort == "in" and left[door]][0]
            other = [door for door, sort in enumerate(sorts) if sort == "out" and left[door]][0]
            desk.book(door, other, min(left[door], left[other]))


if __name__ == "__main__":
    unittest.main()
