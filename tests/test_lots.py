import unittest
from itertools import permutations

from lastbell import lots
from lastbell.errors import BadAmount, BadBell, BadHouse, BadLot
from lastbell.houses import House
from lastbell.lots import levels, lot_bell, most, most_plan, steady
from tests.made import H_DOORS, H_ROADS, all_lots, example, small_house
from tests.refusals import bad_lots
from tests.things import no_houses, no_numbers


class ExampleTest(unittest.TestCase):

    def test_mosts(self):
        told = {(0,): 12, (1,): 5, (0, 1): 15, (0, 2): 4, (1, 2): 3, (0, 1, 2): 5, (1, 3): 4}
        for lot, amount in told.items():
            self.assertEqual(most(example(), list(lot), 7), amount, lot)

    def test_levels(self):
        self.assertEqual(levels(example(), [0]), [(2, 2)])
        self.assertEqual(levels(example(), [0, 1]), [(2, 2), (6, 1), (7, 1)])
        self.assertEqual(levels(example(), [1, 2]), [(6, 1), (7, 1)])

    def test_bell(self):
        self.assertEqual(lot_bell(example(), [0, 1], 16), 8)

    def test_steady(self):
        self.assertEqual(steady(example(), [0]), 2)
        self.assertEqual(steady(example(), [0, 1]), 4)
        self.assertEqual(steady(example(), [1, 2]), 2)
        self.assertEqual(steady(example(), [2]), 0)


class KindsTest(unittest.TestCase):

    def test_kinds(self):
        for house in [example()] + [small_house(seed) for seed in range(20)]:
            for lot in all_lots(house):
                for bell in (0, 7):
                    self.assertIs(type(most(house, lot, bell)), int)
                    plan = most_plan(house, lot, bell)
                    self.assertIs(type(plan), tuple)
                    self.assertTrue(all(type(half) is list for half in plan))
                    self.assertTrue(all(type(steps) is list for half in plan for steps in half))
                    self.assertTrue(all(type(pair) is tuple for half in plan for steps in half for pair in steps))
                self.assertIs(type(levels(house, lot)), list)
                self.assertTrue(all(type(pair) is tuple for pair in levels(house, lot)))
                self.assertIs(type(steady(house, lot)), int)
                self.assertIs(type(lot_bell(house, lot, 0)), int)

    def test_new_each_time(self):
        for ask in (lambda: levels(example(), [0, 1]), lambda: most_plan(example(), [0, 1], 7)[0],
                    lambda: most_plan(example(), [0, 1], 7)[1], lambda: most_plan(example(), [0, 1], 7)[0][0],
                    lambda: most_plan(example(), [], 7)[0][0]):
            first = ask()
            kept = list(first)
            self.assertIsNot(first, ask())
            first.append("more")
            self.assertEqual(ask(), kept)

    def test_steps_of_one_plan_are_not_one_list(self):
        doors, roads = most_plan(example(), [], 7)
        doors[0].append("more")
        self.assertEqual(doors[1:], [[]] * 3)
        self.assertEqual(roads, [[]] * 5)

    def test_defined_in_their_file(self):
        for ask in (most, most_plan, levels, steady, lot_bell):
            self.assertEqual(ask.__module__, lots.__name__)

    def test_by_names(self):
        house = example()
        self.assertEqual(most(bell=7, lot=[0, 1], house=house), 15)
        self.assertEqual(most_plan(bell=7, lot=[0, 1], house=house), most_plan(house, [0, 1], 7))
        self.assertEqual(levels(lot=[0], house=house), [(2, 2)])
        self.assertEqual(steady(lot=[0], house=house), 2)
        self.assertEqual(lot_bell(amount=16, lot=[0, 1], house=house), 8)


class SameTest(unittest.TestCase):

    def test_lots_in_whatever_order_lists_and_tuples(self):
        for house in [example()] + [small_house(seed) for seed in range(25)]:
            again = House(house.places(), tuple(list(road) for road in house.roads()), [list(d) for d in house.doors()])
            for lot in all_lots(house)[-6:]:
                told = [most(house, lot, 6), most_plan(house, lot, 6), levels(house, lot), steady(house, lot),
                        lot_bell(house, lot, 9)]
                for order in list(permutations(lot))[:24]:
                    for form in (order, list(order)):
                        self.assertEqual([most(again, form, 6), most_plan(again, form, 6), levels(again, form),
                                          steady(again, form), lot_bell(again, form, 9)], told)

    def test_the_lot_is_not_changed(self):
        lot = [3, 1, 0]
        for ask in (lambda: most(example(), lot, 7), lambda: most_plan(example(), lot, 7),
                    lambda: levels(example(), lot), lambda: steady(example(), lot),
                    lambda: lot_bell(example(), lot, 3)):
            ask()
            self.assertEqual(lot, [3, 1, 0])

    def test_the_house_is_not_changed(self):
        house = example()
        for lot in all_lots(house):
            most_plan(house, lot, 9)
            levels(house, lot)
        self.assertEqual(house, example())


class RefusedTest(unittest.TestCase):

    def refused(self, error, name, value, ask, *passed):
        names = ask.__code__.co_varnames[:len(passed)]
        for call in (lambda: ask(*passed), lambda: ask(**dict(zip(names, passed)))):
            with self.assertRaises(error) as caught:
                call()
            self.assertIs(type(caught.exception), error)
            self.assertIs(getattr(caught.exception, name), value)

    def test_no_house(self):
        for thing in no_houses():
            for ask in (levels, steady):
                self.refused(BadHouse, "thing", thing, ask, thing, [0])
                self.refused(BadHouse, "thing", thing, ask, thing, None)
            for ask in (most, most_plan, lot_bell):
                self.refused(BadHouse, "thing", thing, ask, thing, [0], 7)
                self.refused(BadHouse, "thing", thing, ask, thing, [0, 0], None)
                self.refused(BadHouse, "thing", thing, ask, thing, None, -1)

    def test_no_lot(self):
        for thing in bad_lots():
            for ask in (levels, steady):
                self.refused(BadLot, "lot", thing, ask, example(), thing)
            for ask in (most, most_plan, lot_bell):
                self.refused(BadLot, "lot", thing, ask, example(), thing, 7)
                self.refused(BadLot, "lot", thing, ask, example(), thing, -1)
                self.refused(BadLot, "lot", thing, ask, example(), thing, None)

    def test_no_lot_of_a_house_without_doors(self):
        house = House(3, [(0, 1, 1, 1)], [])
        self.assertEqual(most(house, [], 5), 0)
        for lot in ([0], (0,), [1]):
            self.refused(BadLot, "lot", lot, most, house, lot, 5)

    def test_no_bell(self):
        for thing in no_numbers():
            for ask in (most, most_plan):
                for lot in ([], [0], [2, 3], [0, 1, 2, 3]):
                    self.refused(BadBell, "bell", thing, ask, example(), lot, thing)

    def test_no_amount(self):
        for thing in no_numbers():
            for lot in ([], [0], [2, 3], [0, 1, 2, 3]):
                self.refused(BadAmount, "amount", thing, lot_bell, example(), lot, thing)

    def test_the_very_object_also_when_it_grows(self):
        for lot in ([0, 0], [9]):
            with self.assertRaises(BadLot) as caught:
                most(example(), lot, 7)
            lot.append("more")
            self.assertIs(caught.exception.lot, lot)
            self.assertEqual(caught.exception.lot[-1], "more")


class BoundsTest(unittest.TestCase):

    def test_lots_of_no_and_of_all_doors(self):
        for house in [example()] + [small_house(seed) for seed in range(30)]:
            for lot in ([], list(range(len(house.doors())))):
                self.assertEqual(most(house, lot, 30), 0)
                self.assertEqual(levels(house, lot), [])
                self.assertEqual(steady(house, lot), 0)
                self.assertEqual(lot_bell(house, lot, 0), 0)
                self.assertIsNone(lot_bell(house, lot, 1))
                self.assertEqual(most_plan(house, lot, 30),
                                 ([[] for _ in house.doors()], [[] for _ in house.roads()]))

    def test_doors_of_one_sort_alone_and_none(self):
        for doors in ([], [("in", 0, 0), ("in", 1, 2)], [("out", 3, 0), ("out", 4, 0)]):
            house = House(5, H_ROADS, doors)
            for lot in all_lots(house):
                self.assertEqual(most(house, lot, 50), 0)
                self.assertEqual(levels(house, lot), [])
                self.assertIsNone(lot_bell(house, lot, 1))
                self.assertEqual(most_plan(house, lot, 50), ([[] for _ in doors], [[] for _ in H_ROADS]))

    def test_no_roads(self):
        house = House(2, [], [("in", 0, 0), ("out", 1, 0)])
        self.assertEqual(most(house, [0], 10 ** 12), 0)
        self.assertEqual(most_plan(house, [0], 9), ([[], []], []))
        self.assertEqual((levels(house, [0]), steady(house, [0]), lot_bell(house, [0], 5)), ([], 0, None))

    def test_one_road(self):
        house = House(2, [(0, 1, 3, 2)], [("in", 0, 4), ("out", 1, 5)])
        self.assertEqual(levels(house, [0]), [(12, 2)])
        self.assertEqual([most(house, [0], bell) for bell in (0, 11, 12, 13, 20)], [0, 0, 2, 4, 18])
        self.assertEqual(most_plan(house, [0], 11), ([[], []], [[]]))
        self.assertEqual(most_plan(house, [0], 12), ([[(4, 2), (5, 0)], [(7, 2), (8, 0)]], [[(4, 2), (5, 0)]]))
        self.assertEqual(most_plan(house, [0], 14), ([[(4, 2), (7, 0)], [(7, 2), (10, 0)]], [[(4, 2), (7, 0)]]))
        self.assertEqual([lot_bell(house, [0], amount) for amount in range(6)], [0, 12, 12, 13, 13, 14])

    def test_roads_that_take_no_turn(self):
        house = House(3, [(0, 1, 0, 2), (1, 2, 0, 1), (0, 2, 0, 4)], [("in", 0, 0), ("out", 2, 0)])
        self.assertEqual(levels(house, [0]), [(0, 5)])
        self.assertEqual([most(house, [0], bell) for bell in (0, 1, 2)], [5, 10, 15])
        self.assertEqual(lot_bell(house, [0], 5), 0)
        self.assertEqual(lot_bell(house, [0], 6), 1)

    def test_alike_doors(self):
        house = House(2, [(0, 1, 1, 3)], [("in", 0, 0), ("in", 0, 0), ("in", 0, 5), ("out", 1, 0), ("out", 1, 2)])
        self.assertEqual(levels(house, [0]), [(1, 3)])
        self.assertEqual(levels(house, [1, 2]), [(1, 3)])
        self.assertEqual(levels(house, [2]), [(6, 3)])
        self.assertEqual(levels(house, [2, 3]), [(8, 3)])

    def test_back_along_a_road_on_which_loads_go(self):
        roads = [(0, 1, 1, 1), (0, 2, 5, 1), (1, 2, 1, 1), (1, 3, 5, 1), (2, 3, 1, 1)]
        house = House(4, roads, [("in", 0, 0), ("out", 3, 0)])
        self.assertEqual(levels(house, [0]), [(3, 1), (9, 1)])
        self.assertEqual([most(house, [0], bell) for bell in (2, 3, 8, 9, 10)], [0, 1, 6, 8, 10])
        self.assertEqual(lot_bell(house, [0], 8), 9)


if __name__ == "__main__":
    unittest.main()
