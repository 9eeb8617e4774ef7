import random
import unittest

from lastbell import plans
from lastbell.errors import BadPlan, BadTurn
from lastbell.houses import House
from lastbell.lots import most_plan
from lastbell.plans import bell_of, brings, is_plan, on_roads, plan_fault
from tests.judged import fault_by_bell, fault_of_plan, first_fault
from tests.made import busy_house, crossed_house, example, far_house, small_house, with_more_doors
from tests.refusals import Parameter, a_house, a_thing, judge_names, judge_refusals, judge_unchanged
from tests.streams import Streams, made_streams
from tests.test_steps import far_steps, no_steps
from tests.things import a_function, deep, example_house, no_lists, no_numbers

DOORS = [[(0, 2), (3, 0)], [], [(2, 2), (5, 0)], []]
ROADS = [[(0, 2), (3, 0)], [], [(1, 2), (4, 0)], [], []]


def no_forms():
    """Things that are no pair of lists of just so many steps, for the document's house."""
    things = no_lists() + [[], (), (DOORS,), [DOORS], (DOORS, ROADS, []), [ROADS, DOORS], "ab", deep(45),
                           (DOORS[:3], ROADS), (DOORS + [[]], ROADS), (DOORS, ROADS[:4]), (DOORS, ROADS + [[]]),
                           ([], []), (DOORS, []), ([], ROADS), (DOORS[:3], ROADS + [[]]), example_house(),
                           {0: DOORS, 1: ROADS}, [a_function, a_function], (DOORS, deep(45)), ((), ())]
    things += [(thing, ROADS) for thing in no_lists()] + [(DOORS, thing) for thing in no_lists()]
    for thing in no_steps():
        things += [(DOORS[:at] + [thing] + DOORS[at + 1:], ROADS) for at in (0, 1, 3)]
        things += [(DOORS, ROADS[:at] + [thing] + ROADS[at + 1:]) for at in (0, 2, 4)]
    return things


def houses():
    return ([small_house(seed) for seed in range(40)] + [busy_house(seed) for seed in range(60)]
            + [crossed_house(seed) for seed in range(30)] + [ring_house(seed) for seed in range(40)])


def ring_house(seed):
    """One with rings through every place, and doors at most places."""
    chance = random.Random(seed)
    roads = [(at, (at + 1) % 4, chance.choice((1, 1, 2, 3)), 1) for at in range(4)]
    roads += [(2, 0, chance.choice((1, 2)), 1), (1, 3, 0, 1), (3, 1, chance.choice((1, 3)), 1)]
    doors = [("in", 0, chance.choice((0, 2))), ("out", 2, chance.choice((0, 1))), ("out", 3, 0), ("in", 0, 1)]
    return House(4, roads, doors)


def all_streams():
    found = [made_streams(house, number, 1 + number % 6) for number, house in enumerate(houses())]
    return [streams for streams in found if streams.streams]


def bent(plan, seed):
    """A plan with one of its numbers otherwise, or one of its steps; it keeps its form."""
    chance = random.Random(seed)
    halves = [[list(steps) for steps in half] for half in plan]
    half = chance.choice(halves)
    if not half:
        half = halves[0] or halves[1]
    at = chance.randrange(len(half))
    steps = half[at]
    kind = chance.randrange(5)
    if not steps or kind == 0:
        half[at] = [] if steps else [(chance.randint(0, 6), 1), (7, 0)]
    elif kind == 1:
        half[at] = [(turn + 1, rate) for turn, rate in steps]
    elif kind == 2 and steps[0][0] > 0:
        half[at] = [(turn - 1, rate) for turn, rate in steps]
    elif kind == 3:
        half[at] = [(turn, rate + 1 if rate else 0) for turn, rate in steps]
    else:
        half[at] = steps[:-1] + [(steps[-1][0] + 1, 0)]
    return halves[0], halves[1]


class ExampleTest(unittest.TestCase):

    def test_the_plan(self):
        plan = (DOORS, ROADS)
        self.assertIs(is_plan(example(), plan), True)
        self.assertIsNone(plan_fault(example(), plan))
        self.assertEqual(brings(example(), plan), [6, 0, 6, 0])
        self.assertEqual(bell_of(example(), plan), 4)
        self.assertEqual(on_roads(example(), plan, 1), [2, 0, 2, 0, 0])

    def test_the_fault(self):
        plan = ([[(0, 3), (3, 0)], *DOORS[1:]], ROADS)
        self.assertEqual(plan_fault(example(), plan), (0, "place", 0))
        self.assertIs(type(plan_fault(example(), plan)), tuple)
        self.assertIs(is_plan(example(), plan), False)


class FormTest(unittest.TestCase):

    def test_things_of_no_form(self):
        for thing in no_forms():
            self.assertEqual(plan_fault(example(), thing), ("form",), thing)
            self.assertIs(type(plan_fault(example(), thing)), tuple)
            self.assertIs(is_plan(example(), thing), False)

    def test_lists_and_tuples_alike(self):
        mixed = [tuple([list(pair) for pair in steps] for steps in DOORS), [tuple(steps) for steps in ROADS]]
        for thing in ([DOORS, ROADS], mixed, tuple(mixed), (tuple(DOORS), tuple(ROADS))):
            self.assertIsNone(plan_fault(example(), thing))
            self.assertIs(is_plan(example(), thing), True)
            self.assertEqual(brings(example(), thing), [6, 0, 6, 0])
            self.assertEqual(bell_of(example(), thing), 4)
            self.assertEqual(on_roads(example(), thing, 1), [2, 0, 2, 0, 0])

    def test_nobody_goes(self):
        for house in [example()] + houses()[::9] + [House(1, [], []), House(2, [], [("in", 0, 5), ("out", 1, 5)])]:
            plan = ([[] for _ in house.doors()], [[] for _ in house.roads()])
            self.assertIsNone(plan_fault(house, plan))
            self.assertEqual(brings(house, plan), [0] * len(house.doors()))
            self.assertEqual(bell_of(house, plan), 0)
            for turn in (0, 5, 10 ** 13):
                self.assertEqual(on_roads(house, plan, turn), [0] * len(house.roads()))

    def test_houses_without_doors_or_roads_or_with_doors_of_one_sort(self):
        going = [(1, 1), (2, 0)]
        bare = House(3, [(0, 1, 2, 1), (1, 0, 2, 1)], [])
        self.assertIsNone(plan_fault(bare, ([], [[], []])))
        self.assertEqual(plan_fault(bare, ([], [going, []])), (1, "place", 0))
        self.assertEqual(plan_fault(bare, ([[]], [[], []])), ("form",))
        shut = House(2, [], [("in", 0, 1), ("out", 1, 0)])
        self.assertIsNone(plan_fault(shut, ([[], []], [])))
        self.assertEqual(plan_fault(shut, ([going, going], [])), (1, "place", 0))
        self.assertEqual(plan_fault(shut, ([[], going], [])), (1, "place", 1))
        for sort in ("in", "out"):
            house = House(3, [(0, 1, 1, 1)], [(sort, 0, 0), (sort, 0, 0)])
            self.assertIsNone(plan_fault(house, ([[], []], [[]])))
            self.assertEqual(plan_fault(house, ([going, []], [[]])), (1, "place", 0))
            self.assertEqual(plan_fault(house, ([going, []], [going])), (1 if sort == "out" else 2, "place",
                                                                       0 if sort == "out" else 1))
        self.assertEqual(plan_fault(House(1, [], []), ([], [])), None)
        self.assertEqual(plan_fault(House(1, [], []), ([], [[]])), ("form",))


class StreamsTest(unittest.TestCase):

    def test_plans(self):
        self.assertGreater(len(all_streams()), 100)
        for streams in all_streams():
            self.assertIsNone(plan_fault(streams.house, streams.plan()))
            self.assertIs(is_plan(streams.house, streams.plan()), True)
            self.assertIsNone(fault_of_plan(streams.house, streams.plan()))

    def test_followed_one_by_one(self):
        rests = 0
        for streams in all_streams():
            house, plan = streams.house, streams.plan()
            self.assertEqual(brings(house, plan), streams.brings())
            self.assertEqual(bell_of(house, plan), streams.bell())
            self.assertIsNone(fault_by_bell(house, plan, bell_of(house, plan)))
            if bell_of(house, plan) > 0:
                self.assertIsNotNone(fault_by_bell(house, plan, bell_of(house, plan) - 1))
            for turn in [*range(streams.end() + 3), 10 ** 13]:
                self.assertEqual(on_roads(house, plan, turn), streams.on_roads(turn))
                rests += sum(streams.on_roads(turn))
            self.assertEqual(sum(on_roads(house, plan, streams.end())), 0)
        self.assertGreater(rests, 1000)

    def test_what_has_left_is_taken_or_on_roads(self):
        for streams in all_streams():
            house, plan = streams.house, streams.plan()
            told = brings(house, plan)
            sorts = [sort for sort, _, _ in house.doors()]
            self.assertEqual(*[sum(one for one, sort in zip(told, sorts) if sort == which) for which in ("in", "out")])
            for turn in range(streams.end() + 2):
                count = sum(on_roads(house, plan, turn))
                for steps, sort in zip(plan[0], sorts):
                    gone = sum(rate * max(0, min(end, turn + 1) - start)
                               for (start, rate), (end, _) in zip(steps, steps[1:]))
                    count += gone if sort == "out" else -gone
                self.assertEqual(count, 0)

    def test_one_room_too_few(self):
        for streams in all_streams():
            house, plan = streams.house, streams.plan()
            for road, widest in enumerate(streams.widest()):
                if widest > 1:
                    roads = house.roads()
                    roads[road] = (*roads[road][:3], widest - 1)
                    first = min(turn for turn, rate in plan[1][road] if rate == widest)
                    self.assertEqual(plan_fault(House(house.places(), roads, house.doors()), plan),
                                     (first, "road", road))

    def test_a_door_left_ahead_of_its_hour(self):
        for streams in all_streams():
            house, plan = streams.house, streams.plan()
            for door, (sort, place, _) in enumerate(house.doors()):
                if plan[0][door]:
                    doors = house.doors()
                    first = plan[0][door][0][0]
                    doors[door] = (sort, place, first + 1)
                    other = House(house.places(), house.roads(), doors)
                    self.assertEqual(plan_fault(other, plan), (first, "door", door) if sort == "in" else None)
                    doors[door] = (sort, place, first)
                    self.assertIsNone(plan_fault(House(house.places(), house.roads(), doors), plan))

    def test_loads_that_rest_or_are_lost(self):
        house = House(3, [(0, 1, 2, 5), (1, 2, 3, 5)], [("in", 0, 1), ("out", 2, 0)])
        for rate in (1, 3):
            goes, on, off = [(4, rate), (6, 0)], [(6, rate), (8, 0)], [(9, rate), (11, 0)]
            late = [(7, rate), (9, 0)]
            self.assertIsNone(plan_fault(house, ([goes, off], [goes, on])))
            self.assertEqual(plan_fault(house, ([goes, [(10, rate), (12, 0)]], [goes, late])), (6, "place", 1))
            self.assertEqual(plan_fault(house, ([goes, off], [goes, late])), (6, "place", 1))
            self.assertEqual(plan_fault(house, ([goes, []], [goes, []])), (6, "place", 1))
            self.assertEqual(plan_fault(house, ([goes, off[:1] + [(10, 0)]], [goes, on])), (10, "place", 2))
            self.assertEqual(plan_fault(house, ([goes, off], [goes, on[:1] + [(7, 0)]])), (7, "place", 1))
            self.assertEqual(plan_fault(house, ([[], off], [goes, on])), (4, "place", 0))
            self.assertEqual(plan_fault(house, ([[], off], [[], on])), (6, "place", 1))
            self.assertEqual(plan_fault(house, ([[], off], [[], []])), (9, "place", 2))
            self.assertEqual(plan_fault(house, ([goes, off[:1] + [(12, 0)]], [goes, on])), (11, "place", 2))

    def test_rings(self):
        house = House(3, [(0, 1, 1, 2), (1, 0, 1, 1), (1, 2, 1, 1)], [("in", 0, 0), ("out", 2, 0)])
        streams = Streams(house, [(0, [0, 1, 0, 2], 1, 0, 2, 1)])
        self.assertIsNone(plan_fault(house, streams.plan()))
        self.assertEqual(brings(house, streams.plan()), [2, 2])
        self.assertEqual(bell_of(house, streams.plan()), 5)
        # Who goes round and never comes out is on roads for ever, so the rate is never 0 again.
        forever = ([[(0, 1), (1, 0)], []], [[(0, 1), (1, 0), (2, 1), (3, 0)], [(1, 1), (2, 0)], []])
        self.assertEqual(plan_fault(house, forever), (3, "place", 1))


class WalkTest(unittest.TestCase):

    def test_bent_plans(self):
        words = {"door": 0, "road": 0, "place": 0, None: 0}
        for number, streams in enumerate(all_streams()):
            for seed in range(20):
                plan = streams.plan()
                for again in range(seed % 3 + 1):
                    plan = bent(plan, number * 1000 + seed * 10 + again)
                roads = [(*road[:3], max(1, road[3] - seed % 2)) for road in streams.house.roads()]
                doors = [(*door[:2], door[2] + seed % 3 // 2) for door in streams.house.doors()]
                house = House(streams.house.places(), roads, doors)
                fault = first_fault(house, plan, streams.end() + 20)
                self.assertEqual(plan_fault(house, plan), fault, (house.roads(), house.doors(), plan))
                self.assertIs(is_plan(house, plan), fault is None)
                words[fault[1] if fault else None] += 1
        self.assertTrue(all(count > 5 for count in words.values()), words)

    def test_steps_by_chance(self):
        """Nearly all of it is wrong, at many places at one turn."""
        chance = random.Random(5)
        for house in houses():
            for _ in range(5):
                plan = [[some_pairs(chance) for _ in half] for half in (house.doors(), house.roads())]
                self.assertEqual(plan_fault(house, plan), first_fault(house, plan, 60))

    def test_two_faults_at_one_turn(self):
        house = House(4, [(0, 1, 1, 1), (2, 3, 1, 1)], [("in", 0, 5), ("in", 2, 5), ("out", 1, 0), ("out", 3, 0)])
        wide, narrow = [(4, 2), (5, 0)], [(4, 1), (5, 0)]
        for doors, roads, fault in (
                (([], wide, [], []), (wide, wide), (4, "door", 1)),
                ((wide, wide, [], []), (wide, wide), (4, "door", 0)),
                (([], [], [], []), (wide, wide), (4, "road", 0)),
                (([], [], [], []), ([], wide), (4, "road", 1)),
                (([], [], wide, wide), ([], []), (4, "place", 1)),
                (([], [], [], wide), (narrow, []), (4, "place", 0)),
                (([], [], narrow, []), ([], wide), (4, "road", 1)),
                (([], narrow, [], []), (wide, []), (4, "door", 1))):
            self.assertEqual(plan_fault(house, (list(doors), list(roads))), fault)

    def test_two_faults_at_two_turns(self):
        house = House(4, [(0, 1, 1, 1), (2, 3, 1, 1)], [("in", 0, 5), ("in", 2, 5), ("out", 1, 0), ("out", 3, 0)])
        for door, road, place, fault in ((4, 3, 2, (2, "place", 3)), (4, 2, 3, (2, "road", 0)), (2, 3, 4, (2, "door", 1)),
                                         (3, 3, 2, (2, "place", 3)), (3, 2, 2, (2, "road", 0)), (2, 2, 2, (2, "door", 1)),
                                         (4, 3, 3, (3, "road", 0)), (3, 4, 3, (3, "door", 1))):
            plan = ([[], [(door, 1), (9, 0)], [], [(place, 1), (9, 0)]], [[(road, 2), (9, 0)], []])
            self.assertEqual(plan_fault(house, plan), fault)
        self.assertEqual(plan_fault(house, ([[(4, 1), (9, 0)], [(3, 1), (9, 0)], [], []], [[], []])), (3, "door", 1))
        self.assertEqual(plan_fault(house, ([[]] * 4, [[(4, 2), (9, 0)], [(3, 2), (9, 0)]])), (3, "road", 1))


def some_pairs(chance):
    steps, before = [], 0
    for turn in sorted(chance.sample(range(12), chance.choice((0, 0, 0, 1, 2, 3)))):
        rate = chance.choice([rate for rate in (0, 1, 2, 3) if rate != before])
        steps.append((turn, rate))
        before = rate
    return steps + [(chance.randint(12, 15), 0)] if before else steps


def times(plan, many):
    return tuple([[(turn * many, rate * many) for turn, rate in steps] for steps in half] for half in plan)


def times_house(house, many):
    return House(house.places(), [(begin, end, length * many, room * many) for begin, end, length, room in house.roads()],
                 [(sort, place, hour * many) for sort, place, hour in house.doors()])


class FarTest(unittest.TestCase):

    def test_as_many_times(self):
        many = 10 ** 8
        for number, streams in enumerate(all_streams()):
            house = times_house(streams.house, many)
            plan = times(streams.plan(), many)
            self.assertIsNone(plan_fault(house, plan))
            self.assertEqual(brings(house, plan), [one * many * many for one in streams.brings()])
            for turn in range(streams.end() + 1):
                self.assertEqual(on_roads(house, plan, (turn + 1) * many - 1),
                                 [one * many * many for one in streams.on_roads(turn)])
            for seed in range(6):
                crooked = bent(streams.plan(), number * 100 + seed)
                fault = first_fault(streams.house, crooked, streams.end() + 20)
                expected = fault and (fault[0] * many, *fault[1:])
                self.assertEqual(plan_fault(house, times(crooked, many)), expected)

    def test_one_turn_among_far_ones(self):
        top = 10 ** 9
        house = House(3, [(0, 1, top, top), (1, 2, top, top)], [("in", 0, top), ("out", 2, top)])
        start, end = 10 ** 12, 10 ** 13 - 2 * top
        def plan(shift_on=0, shift_off=0, end_on=0, rate=top, begin=0):
            return ([[(start + begin, rate), (end, 0)], [(start + 2 * top + shift_off, rate), (end + 2 * top, 0)]],
                    [[(start + begin, rate), (end, 0)], [(start + top + shift_on, rate), (end + top + end_on, 0)]])
        self.assertIsNone(plan_fault(house, plan()))
        self.assertEqual(bell_of(house, plan()), end + 3 * top - 1)
        self.assertEqual(brings(house, plan()), [top * (end - start)] * 2)
        self.assertEqual(on_roads(house, plan(), start + top // 2), [top * (top // 2 + 1), 0])
        self.assertEqual(on_roads(house, plan(), start + top), [top * top, top])
        self.assertEqual(on_roads(house, plan(), end + top - 2), [top, top * top])
        self.assertEqual(on_roads(house, plan(), end + 2 * top - 1), [0, 0])
        self.assertEqual(plan_fault(house, plan(shift_on=1)), (start + top, "place", 1))
        self.assertEqual(plan_fault(house, plan(shift_off=1)), (start + 2 * top, "place", 2))
        self.assertEqual(plan_fault(house, plan(end_on=-1)), (end + top - 1, "place", 1))
        self.assertEqual(plan_fault(house, plan(rate=top + 1)), (start, "road", 0))
        soon = House(3, house.roads(), [("in", 0, start + 1), ("out", 2, top)])
        self.assertEqual(plan_fault(soon, plan()), (start, "door", 0))

    def test_a_hundred_pairs_each_in_great_houses(self):
        steps = far_steps()
        for seed in range(10):
            house = with_more_doors(far_house(seed), seed, (1, 10 ** 9, 10 ** 21), (0, 10 ** 9, 10 ** 12))
            plan = ([steps for _ in house.doors()], [steps for _ in house.roads()])
            fault = plan_fault(house, plan)
            self.assertEqual(fault, plan_fault(house, plan))
            self.assertEqual(fault[0], steps[0][0])
        house = House(2, [(0, 1, 10 ** 9, 10 ** 13)] * 14, [("in", 0, 5), ("out", 1, 0)])
        whole = [(turn, rate * 14) for turn, rate in steps]
        late = [(turn + 10 ** 9, rate) for turn, rate in whole]
        self.assertIsNone(plan_fault(house, ([whole, late], [steps] * 14)))
        for at in range(0, 99, 7):
            crooked = list(late)
            crooked[at] = (crooked[at][0], crooked[at][1] + 1)
            self.assertEqual(plan_fault(house, ([whole, crooked], [steps] * 14)), (late[at][0], "place", 1))

    def test_plans_of_great_houses(self):
        for seed in range(8):
            house = with_more_doors(busy_house(seed), seed, (1, 2, 5), (0, 1, 4))
            streams = made_streams(house, seed, 10)
            plan = streams.plan()
            self.assertEqual(len(streams.house.doors()), len(busy_house(seed).doors()) + 12)
            self.assertIsNone(plan_fault(streams.house, plan))
            self.assertEqual(brings(streams.house, plan), streams.brings())
            for more in range(20):
                crooked = bent(plan, seed * 100 + more)
                self.assertEqual(plan_fault(streams.house, crooked), first_fault(streams.house, crooked, 90))

    def test_told_plans(self):
        for house in houses()[::3]:
            lot = [door for door, (sort, _, _) in enumerate(house.doors()) if sort == "in"]
            for bell in (4, 15):
                plan = most_plan(house, lot, bell)
                self.assertIs(is_plan(house, plan), True)
                self.assertLessEqual(bell_of(house, plan), bell)


class RefusedTest(unittest.TestCase):

    def parameters(self):
        wrong = no_forms()[::7] + [([[(0, 3), (3, 0)], *DOORS[1:]], ROADS), (DOORS, [[(0, 3), (3, 0)], *ROADS[1:]]),
                                   ([[], [(0, 1), (1, 0)], [], []], ROADS)]
        return [a_house(), Parameter("plan", (DOORS, ROADS), wrong, BadPlan)]

    def test_judges(self):
        for ask in (plan_fault, is_plan):
            judge_refusals(self, ask, [a_house(), a_thing()])
            judge_names(self, ask, [a_house(), a_thing()])
            judge_names(self, ask, [a_house(), Parameter("thing", (DOORS, ROADS))])

    def test_what_plans_tell(self):
        for ask in (brings, bell_of):
            judge_refusals(self, ask, self.parameters())
            judge_names(self, ask, self.parameters())
        turns = Parameter("turn", 2, no_numbers(), BadTurn)
        judge_refusals(self, on_roads, [*self.parameters(), turns])
        judge_names(self, on_roads, [*self.parameters(), turns])

    def test_kinds(self):
        plan = (DOORS, ROADS)
        for ask, passed in ((brings, (plan,)), (on_roads, (plan, 2))):
            judge_unchanged(self, ask, [example(), *passed])
            self.assertIs(type(ask(example(), *passed)), list)
        judge_unchanged(self, bell_of, [example(), plan])
        judge_unchanged(self, plan_fault, [example(), plan])
        self.assertIs(type(bell_of(example(), plan)), int)

    def test_lists_that_change_between_two_calls(self):
        plan = [[[[0, 2], [3, 0]], [], [[2, 2], [5, 0]], []], [[[0, 2], [3, 0]], [], [[1, 2], [4, 0]], [], []]]
        self.assertEqual(brings(example(), plan), [6, 0, 6, 0])
        for steps in (plan[0][0], plan[0][2], plan[1][0], plan[1][2]):
            self.assertIs(is_plan(example(), plan), steps is plan[0][0])
            steps[1][0] += 1
        self.assertEqual(brings(example(), plan), [8, 0, 8, 0])
        self.assertEqual(bell_of(example(), plan), 5)

    def test_defined_in_their_file(self):
        for ask in (plan_fault, is_plan, brings, bell_of, on_roads):
            self.assertEqual(ask.__module__, plans.__name__)


if __name__ == "__main__":
    unittest.main()
