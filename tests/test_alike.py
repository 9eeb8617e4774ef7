import random
import unittest

from lastbell import alike as alike_file
from lastbell.alike import first_unlike, parting
from lastbell.errors import BadHouse, OtherDoors
from lastbell.houses import House
from lastbell.kept import is_lot_for, is_plan_for, lot_for
from lastbell.lots import levels, most
from lastbell.rows import plan_for
from tests.counted import kept_laid_out, most_by_rings, most_laid_out
from tests.made import H_DOORS, H_ROADS, all_lots, busy_house, example, small_house
from tests.means import TOP, far_houses, limit_house, near_houses
from tests.refusals import Parameter, a_house, judge_names, judge_refusals, judge_unchanged, listed, tupled
from tests.test_across import hours_as_roads, renumbered, roads_in_two, roads_side_by_side
from tests.things import no_houses

WIDER = House(5, H_ROADS[:4] + [(1, 4, 5, 2)], H_DOORS)


def changed(house, seed, far=1):
    """The house with one thing otherwise: a road, a room, a length, an hour, or a door's place."""
    chance = random.Random(seed)
    roads, doors = [list(road) for road in house.roads()], [list(door) for door in house.doors()]
    kind = chance.choice(("more", "less", "room", "length", "hour", "place"))
    if kind == "place" and doors:
        door = chance.choice(doors)
        free = [place for place in range(house.places())
                if all(other[1] != place or other[0] == door[0] for other in doors)]
        door[1] = chance.choice(free)
    elif kind == "hour" and doors:
        chance.choice(doors)[2] += chance.randint(1, 2) * far
    elif kind == "more" or not roads:
        begin, end = chance.sample(range(house.places()), 2)
        roads.append([begin, end, chance.randint(1, 4) * far, chance.randint(1, 2) * far])
    elif kind == "less":
        roads.pop(chance.randrange(len(roads)))
    else:
        road = chance.choice(roads)
        road[3 if kind == "room" else 2] += chance.randint(1, 2) * far
    return House(house.places(), roads, doors)


def pairs():
    """Small houses of which the second one has one thing otherwise."""
    found = []
    for number, house in enumerate(near_houses() + [small_house(seed) for seed in range(40)]):
        if house.places() > 1:
            found += [(house, changed(house, number * 10 + seed)) for seed in range(3)]
    return found


def far_pairs():
    found = []
    for number, house in enumerate(far_houses()[::2] + [limit_house(seed) for seed in range(10)]):
        found += [(house, changed(house, number * 10 + seed, (1, TOP // 5)[seed % 2])) for seed in range(4)]
    return found


def first_unlike_walked(house, other, count, last):
    """Bell by bell, lot by lot."""
    for bell in range(last + 1):
        for lot in sorted(all_lots(house)):
            if count(house, lot, bell) != count(other, lot, bell):
                return bell, lot
    return None


def steady_from(house):
    """A bell from which on as many more come each turn: no way without rings is longer."""
    return sum(length for _, _, length, _ in house.roads()) + 2 * max([0] + [hour for _, _, hour in house.doors()]) + 1


class ExampleTest(unittest.TestCase):

    def test_all_of_it(self):
        self.assertEqual(first_unlike(example(), WIDER), (7, [0, 1]))
        self.assertEqual(first_unlike(WIDER, example()), (7, [0, 1]))
        self.assertEqual(most(WIDER, [0, 1], 7), 16)
        bell, wishes, house_is = parting(example(), WIDER)
        self.assertEqual((bell, house_is), (7, False))
        self.assertIsNone(plan_for(example(), wishes, 7))
        self.assertTrue(is_plan_for(WIDER, wishes, 7, plan_for(WIDER, wishes, 7)))
        self.assertEqual(parting(WIDER, example()), (7, wishes, True))


class UnlikeTest(unittest.TestCase):

    def judge_parting(self, house, other, told):
        """Wishes that just one of them keeps: by a plan, and by a lot of the other one."""
        if told is None:
            self.assertIsNone(parting(house, other))
            return
        found = parting(house, other)
        name = (house.roads(), house.doors(), other.roads(), other.doors(), found)
        self.assertEqual([type(one) for one in found], [int, list, bool], name)
        bell, wishes, house_is = found
        self.assertEqual(bell, told[0], name)
        keeps, lacks = (house, other) if house_is else (other, house)
        plan = plan_for(keeps, wishes, bell)
        self.assertTrue(is_plan_for(keeps, wishes, bell, plan), name)
        self.assertIsNone(plan_for(lacks, wishes, bell), name)
        self.assertTrue(is_lot_for(lacks, wishes, bell, lot_for(lacks, wishes, bell)), name)
        self.assertIsNone(lot_for(keeps, wishes, bell), name)
        self.assertIs(parting(other, house)[2], not house_is, name)

    def test_walked_bell_by_bell(self):
        alike = 0
        for number, (house, other) in enumerate(pairs()):
            told = first_unlike(house, other)
            last = max(steady_from(house), steady_from(other))
            self.assertEqual(told, first_unlike_walked(house, other, most, last),
                             (house.roads(), house.doors(), other.roads(), other.doors()))
            self.assertEqual(first_unlike(other, house), told)
            if told is not None:
                self.assertEqual((type(told), type(told[0]), type(told[1])), (tuple, int, list))
            alike += told is None
            self.judge_parting(house, other, told)
        self.assertTrue(60 < alike < len(pairs()) - 60, alike)

    def test_counted_with_all_turns_laid_out(self):
        some = 0
        for house, other in pairs()[::8]:
            told = first_unlike(house, other)
            if told is not None and told[0] < 14:
                some += 1
                self.assertEqual(first_unlike_walked(house, other, most_laid_out, told[0]), told)
                bell, wishes, house_is = parting(house, other)
                self.assertIs(kept_laid_out(house, wishes, bell), house_is)
                self.assertIs(kept_laid_out(other, wishes, bell), not house_is)
        self.assertGreater(some, 12)

    def test_far(self):
        unlike = 0
        for house, other in far_pairs():
            told = first_unlike(house, other)
            self.judge_parting(house, other, told)
            for bell in (TOP, 10 ** 12):
                some = [lot for lot in all_lots(house) if most(house, lot, bell) != most(other, lot, bell)]
                self.assertTrue(not some or told is not None and told[0] <= bell)
            if told is not None:
                unlike += 1
                bell, lot = told
                some = [one for one in sorted(all_lots(house))
                        if most_by_rings(house, one, bell) != most_by_rings(other, one, bell)]
                self.assertEqual(some[0], lot)
                if bell:
                    self.assertTrue(all(most_by_rings(house, one, bell - 1) == most_by_rings(other, one, bell - 1)
                                        for one in all_lots(house)))
        self.assertGreater(unlike, 40)

    def test_alike_up_to_a_far_bell(self):
        """They part only by a way that takes ages, or by one load more there; or by none, since it leads nowhere."""
        base = House(3, [(0, 1, 1, 5)], [("in", 0, 0), ("out", 1, 0)])
        for length in (2, 10 ** 9, 10 ** 12):
            far = House(3, [(0, 1, 1, 5), (0, 2, length, 1), (2, 1, 0, 1)], base.doors())
            self.assertEqual(first_unlike(base, far), (length, [0]))
            self.assertEqual(parting(base, far), (length, [5 * length + 1, 5 * length + 1], False))
            wide = House(3, [(0, 1, 1, 5), (0, 2, length, 2), (2, 1, 0, 2)], base.doors())
            self.assertEqual(first_unlike(wide, far), (length, [0]))
            late = House(3, [(0, 1, 1, 5), (0, 2, length + 1, 1), (2, 1, 0, 1)], base.doors())
            self.assertEqual(first_unlike(late, far), (length, [0]))
        self.assertIsNone(first_unlike(base, House(3, [(0, 1, 1, 5), (0, 2, 3, 9), (2, 0, 3, 9)], base.doors())))

    def test_the_first_of_several_lots(self):
        doors = [("in", 0, 0), ("out", 2, 0), ("in", 1, 0), ("out", 3, 0)]
        house = House(4, [(0, 2, 3, 1), (1, 3, 2, 1)], doors)
        self.assertEqual(first_unlike(house, House(4, [(0, 2, 3, 2), (1, 3, 2, 1)], doors)), (3, [0]))
        self.assertEqual(first_unlike(house, House(4, [(0, 2, 3, 2), (1, 3, 2, 2)], doors)), (2, [0, 1, 2]))
        self.assertEqual(first_unlike(house, House(4, [(0, 2, 2, 1), (1, 3, 2, 2)], doors)), (2, [0]))
        self.assertEqual(first_unlike(house, House(4, [], doors)), (2, [0, 1, 2]))

    def test_by_bell_0(self):
        doors = [("in", 0, 0), ("out", 1, 0)]
        self.assertEqual(first_unlike(House(2, [(0, 1, 0, 1)], doors), House(2, [], doors)), (0, [0]))
        self.assertEqual(parting(House(2, [(0, 1, 0, 1)], doors), House(2, [], doors)), (0, [1, 1], True))

    def test_lengths_and_rooms_times_as_much(self):
        for house, other in pairs()[::3]:
            told = first_unlike(house, other)
            many = 10 ** 7 + 9
            long, other_long = [House(one.places(), [(*road[:2], road[2] * many, road[3]) for road in one.roads()],
                                      [(sort, place, hour * many) for sort, place, hour in one.doors()])
                                for one in (house, other)]
            wide, other_wide = [House(one.places(), [(*road[:3], road[3] * many) for road in one.roads()], one.doors())
                                for one in (house, other)]
            self.assertEqual(first_unlike(wide, other_wide), told)
            self.assertEqual(first_unlike(long, other_long), told and (told[0] * many, told[1]))
            for lot in all_lots(house):
                self.assertEqual(levels(wide, lot), [(length, amount * many) for length, amount in levels(house, lot)])
                self.assertEqual(most(long, lot, 9 * many - 1), most(house, lot, 8) * many)
            self.judge_parting(long, other_long, first_unlike(long, other_long))


class AlikeTest(unittest.TestCase):

    def test_otherwise_told(self):
        for number, house in enumerate(near_houses()[::2] + far_houses()[::6]):
            for tell in (renumbered, roads_in_two, roads_side_by_side, lambda house, seed: hours_as_roads(house)):
                self.assertIsNone(first_unlike(house, tell(house, number)))
                self.assertIsNone(parting(tell(house, number), house))
            self.assertIsNone(first_unlike(house, house))

    def test_what_no_way_takes(self):
        """Roads from where nobody comes, hours of doors through which nobody gets."""
        roads = [(0, 1, 1, 1), (2, 1, 1, 5), (1, 3, 2, 7)]
        doors = [("in", 0, 0), ("out", 1, 0), ("in", 3, 5)]
        house = House(4, roads, doors)
        for other in (House(4, roads[:1], doors), House(4, roads, [*doors[:2], ("in", 3, 9)]),
                      House(4, roads + [(1, 2, 1, 1)], doors), House(4, roads, [*doors[:2], ("in", 3, 0)])):
            self.assertIsNone(first_unlike(house, other))
            self.assertIsNone(parting(house, other))

    def test_doors_of_one_sort_alone_and_none(self):
        for doors in ([], [("in", 0, 0), ("in", 1, 2)], [("out", 3, 0), ("out", 4, 9)]):
            house = House(5, H_ROADS, doors)
            for other in (House(5, [], doors), House(9, H_ROADS, [(sort, place, hour + 1) for sort, place, hour in doors])):
                self.assertIsNone(first_unlike(house, other))
                self.assertIsNone(parting(house, other))


class RefusedTest(unittest.TestCase):

    def test_other_doors(self):
        for doors in ([], H_DOORS[:3], H_DOORS + [("in", 2, 0)], H_DOORS[::-1], [H_DOORS[0], H_DOORS[2], H_DOORS[1], H_DOORS[3]],
                      [("in", 0, 0), ("in", 1, 1), ("in", 3, 0), ("out", 4, 1)],
                      [("out", 0, 0), ("out", 1, 1), ("in", 3, 0), ("in", 4, 1)]):
            other = House(5, H_ROADS, doors)
            for ask in (first_unlike, parting):
                for call in (lambda: ask(example(), other), lambda: ask(other, example()),
                             lambda: ask(other=other, house=example())):
                    with self.assertRaises(OtherDoors):
                        call()
        # Hours and places may be unlike.
        self.assertIsNotNone(first_unlike(example(), House(5, H_ROADS, [("in", 0, 3), ("in", 2, 1), ("out", 3, 9), ("out", 4, 1)])))

    def test_refused(self):
        other = Parameter("other", WIDER, no_houses(), BadHouse, "thing")
        for ask in (first_unlike, parting):
            judge_refusals(self, ask, [a_house(), other])
            judge_names(self, ask, [a_house(), other])
            judge_unchanged(self, ask, [example(), WIDER])
            self.assertEqual(ask.__module__, alike_file.__name__)

    def test_no_house_ahead_of_other_doors(self):
        for thing in no_houses():
            for ask in (first_unlike, parting):
                with self.assertRaises(BadHouse) as caught:
                    ask(House(1, [], []), thing)
                self.assertIs(caught.exception.thing, thing)

    def test_sameness(self):
        for house, other in pairs()[::9]:
            again = House(house.places(), tupled(house.roads()), listed(house.doors()))
            self.assertEqual(parting(again, other), parting(house, other))
            self.assertEqual(first_unlike(again, other), first_unlike(house, other))
        self.assertIsNone(first_unlike(busy_house(3), busy_house(3)))


if __name__ == "__main__":
    unittest.main()
