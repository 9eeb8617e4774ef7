import unittest
from itertools import permutations, product

from lastbell import houses
from lastbell.errors import BadDoors, BadPlaces, BadRoads
from lastbell.houses import House
from tests.made import H_DOORS, H_ROADS, example, small_house
from tests.things import a_function, deep, example_house, no_lists, no_numbers


class HouseCase(unittest.TestCase):

    def refused(self, error, value, places, roads, doors):
        """Refused by place and by names, with just this value."""
        for make in (lambda: House(places, roads, doors),
                     lambda: House(doors=doors, roads=roads, places=places)):
            with self.assertRaises(error) as caught:
                make()
            self.assertIs(type(caught.exception), error)
            kept = caught.exception.places if error is BadPlaces else caught.exception.index
            if error is BadPlaces:
                self.assertIs(kept, value)
            else:
                self.assertIs(type(kept), int)
                self.assertEqual(kept, value)


class ToldTest(HouseCase):

    def test_what_was_passed_is_told(self):
        house = example()
        self.assertEqual(house.places(), 5)
        self.assertEqual(house.roads(), H_ROADS)
        self.assertEqual(house.doors(), H_DOORS)

    def test_kinds_are_tuples_in_lists(self):
        for house in (example(), House(5, tuple(list(road) for road in H_ROADS), tuple(list(door) for door in H_DOORS)),
                      House(5, [list(road) for road in H_ROADS], [list(door) for door in H_DOORS])):
            self.assertIs(type(house.places()), int)
            for told in (house.roads(), house.doors()):
                self.assertIs(type(told), list)
                self.assertTrue(all(type(thing) is tuple for thing in told))
            self.assertEqual(house.roads(), H_ROADS)
            self.assertEqual(house.doors(), H_DOORS)

    def test_by_place_and_by_names(self):
        self.assertEqual(House(doors=H_DOORS, places=5, roads=H_ROADS), example())
        self.assertEqual(House(5, H_ROADS, doors=H_DOORS), example())

    def test_lists_tuples_and_both_mixed_mean_the_same(self):
        mixed = House(5, (H_ROADS[0], list(H_ROADS[1]), *H_ROADS[2:]), [list(H_DOORS[0]), *H_DOORS[1:]])
        self.assertEqual(mixed, example())
        self.assertEqual(mixed.roads(), H_ROADS)
        self.assertEqual(mixed.doors(), H_DOORS)

    def test_least_houses(self):
        house = House(1, [], [])
        self.assertEqual((house.places(), house.roads(), house.doors()), (1, [], []))
        self.assertEqual(House(1, (), ()), house)

    def test_alike_roads_and_doors(self):
        roads = [(0, 1, 0, 1), (0, 1, 0, 1), (1, 2, 3, 2), (1, 2, 3, 2), (2, 1, 3, 2)]
        doors = [("in", 0, 0), ("in", 0, 0), ("in", 0, 7), ("out", 2, 0), ("out", 2, 0)]
        house = House(3, roads, doors)
        self.assertEqual(house.roads(), roads)
        self.assertEqual(house.doors(), doors)

    def test_great_numbers(self):
        roads = [(0, 1, 10 ** 30, 10 ** 30)]
        doors = [("in", 0, 10 ** 30), ("out", 1, 10 ** 30)]
        house = House(2, roads, doors)
        self.assertEqual((house.roads(), house.doors()), (roads, doors))

    def test_told_lists_are_new_ones(self):
        house = example()
        for ask in (house.roads, house.doors):
            self.assertIsNot(ask(), ask())
            told = ask()
            told.append("more")
            told[0] = None
            ask().clear()
        self.assertEqual(house, example())
        self.assertEqual((house.roads(), house.doors()), (H_ROADS, H_DOORS))

    def test_later_changes_have_no_effect(self):
        roads = [list(road) for road in H_ROADS]
        doors = [list(door) for door in H_DOORS]
        house = House(5, roads, doors)
        roads[0][3] = 99
        roads[1].append(0)
        roads.pop()
        doors[0][0] = "out"
        doors.append(("out", 4, 1))
        self.assertEqual((house.roads(), house.doors()), (H_ROADS, H_DOORS))
        self.assertEqual(house, example())

    def test_arguments_are_not_changed(self):
        roads = [list(road) for road in H_ROADS]
        doors = [list(door) for door in H_DOORS]
        House(5, roads, doors)
        self.assertEqual(roads, [list(road) for road in H_ROADS])
        self.assertEqual(doors, [list(door) for door in H_DOORS])


class EqualTest(unittest.TestCase):

    def test_equal_if_all_three_are(self):
        for seed in range(30):
            self.assertTrue(small_house(seed) == small_house(seed))
            self.assertFalse(small_house(seed) != small_house(seed))

    def test_unlike_in_any_of_them(self):
        others = [House(6, H_ROADS, H_DOORS), House(5, H_ROADS[:-1], H_DOORS), House(5, H_ROADS, H_DOORS[:-1]),
                  House(5, H_ROADS[::-1], H_DOORS), House(5, H_ROADS, H_DOORS[::-1]),
                  House(5, H_ROADS + [(1, 4, 5, 1)], H_DOORS), House(5, H_ROADS[:-1] + [(1, 4, 5, 2)], H_DOORS),
                  House(5, H_ROADS, H_DOORS[:-1] + [("out", 4, 2)]), House(5, [], []), House(5, [], H_DOORS)]
        for other in others:
            self.assertFalse(example() == other)
            self.assertTrue(example() != other)

    def test_equal_none_of_another_class(self):
        for other in (None, 5, "House", [], (5, H_ROADS, H_DOORS), [5, H_ROADS, H_DOORS], {}, a_function, object()):
            self.assertFalse(example() == other)
            self.assertFalse(other == example())
            self.assertTrue(example() != other)

    def test_methods_stand_in_the_class_itself(self):
        for name in ("__init__", "__eq__", "places", "roads", "doors"):
            self.assertIn(name, vars(House))
        self.assertEqual(House.__module__, houses.__name__)


class PlacesTest(HouseCase):

    def test_no_integer_from_1_on(self):
        for thing in no_numbers() + [0]:
            self.refused(BadPlaces, thing, thing, [], [])

    def test_ahead_of_the_others(self):
        for thing in (0, True, None, "5", [5]):
            for roads, doors in product((None, "roads", [None], H_ROADS), ({}, [None], H_DOORS)):
                self.refused(BadPlaces, thing, thing, roads, doors)

    def test_the_very_object_also_when_it_grows(self):
        thing = [1]
        with self.assertRaises(BadPlaces) as caught:
            House(thing, [], [])
        thing.append(2)
        self.assertIs(caught.exception.places, thing)
        self.assertEqual(caught.exception.places, [1, 2])


class RoadsTest(HouseCase):

    def test_no_list(self):
        for thing in no_lists():
            self.refused(BadRoads, 0, 5, thing, H_DOORS)
            self.refused(BadRoads, 0, 5, thing, None)

    def test_no_quadruple(self):
        things = no_lists() + ["abcd", [], (), (0, 1, 1), (0, 1, 1, 1, 1), [0], deep(45), {0: 0, 1: 1, 2: 2, 3: 3}]
        for thing in things:
            for at in range(4):
                roads = H_ROADS[:at] + [thing] + H_ROADS[at:]
                self.refused(BadRoads, at, 5, roads, H_DOORS)
                self.refused(BadRoads, at, 5, tuple(roads), [None])

    def test_a_wrong_thing_at_each_place_of_a_road(self):
        for at, wrong in enumerate((no_numbers() + [5, 10 ** 9, 2], no_numbers() + [5, 10 ** 9, 0],
                                    no_numbers(), no_numbers() + [0])):
            for thing in wrong:
                road = [0, 2, 1, 2]
                road[at] = thing
                for form in (road, tuple(road)):
                    self.refused(BadRoads, 0, 5, [form], H_DOORS)
                    self.refused(BadRoads, 5, 5, H_ROADS + [form, None], H_DOORS)

    def test_least_and_greatest_that_are_let(self):
        roads = [(0, 4, 0, 1), (4, 0, 1, 1), (3, 4, 10 ** 9, 10 ** 9)]
        self.assertEqual(House(5, roads, []).roads(), roads)

    def test_the_first_of_several(self):
        self.refused(BadRoads, 1, 5, [H_ROADS[0], (0, 0, 1, 1), (0, 1, 1, 0), None], H_DOORS)
        self.refused(BadRoads, 2, 5, [(0, 1, 0, 1), (1, 2, 0, 1), (2, 0, 0, 1), None], H_DOORS)
        self.refused(BadRoads, 2, 5, [(0, 1, 0, 1), (1, 2, 0, 1), None, (2, 0, 0, 1)], H_DOORS)

    def test_ahead_of_doors(self):
        self.refused(BadRoads, 0, 5, [None], None)
        self.refused(BadRoads, 0, 5, None, [None])


class RingsTest(HouseCase):

    def test_rings_of_any_number_of_roads_in_any_order(self):
        for many in (2, 3, 4, 5):
            ring = [(at, (at + 1) % many, 0, 1) for at in range(many)]
            for order in permutations(ring):
                self.refused(BadRoads, many - 1, many, list(order), [])
                self.refused(BadRoads, many - 1, many, [*order, None], [])
                House(many, order[:-1], [])

    def test_the_road_that_closes_it_is_refused(self):
        self.refused(BadRoads, 3, 4, [(0, 1, 0, 1), (2, 3, 0, 1), (1, 2, 4, 1), (1, 0, 0, 9)], [])
        self.refused(BadRoads, 4, 4, [(0, 1, 0, 1), (0, 2, 0, 1), (1, 3, 0, 1), (2, 3, 0, 1), (3, 0, 0, 1)], [])
        self.refused(BadRoads, 2, 4, [(0, 1, 0, 1), (0, 1, 0, 1), (1, 0, 0, 1), (1, 0, 0, 1)], [])
        self.refused(BadRoads, 3, 6, [(3, 4, 0, 1), (0, 1, 0, 1), (4, 5, 0, 1), (5, 3, 0, 1), (1, 0, 0, 1)], [])

    def test_no_rings(self):
        let = [
            [(0, 1, 0, 1), (0, 1, 0, 1), (0, 1, 0, 2)],
            [(0, 1, 0, 1), (1, 0, 1, 1), (0, 1, 0, 1)],
            [(0, 1, 0, 1), (1, 2, 0, 1), (0, 2, 0, 1), (0, 3, 0, 1), (2, 3, 0, 1), (1, 3, 0, 1)],
            [(0, 1, 0, 1), (1, 2, 0, 1), (2, 0, 1, 1)],
            [(2, 1, 0, 1), (1, 0, 0, 1), (3, 2, 0, 1), (3, 0, 0, 1)],
            [(0, 1, 2, 1), (1, 0, 2, 1)],
            [(1, 0, 0, 1), (2, 0, 0, 1), (3, 0, 0, 1), (3, 1, 0, 1), (3, 2, 0, 1)],
        ]
        for roads in let:
            for order in permutations(roads):
                self.assertEqual(House(4, order, []).roads(), list(order))

    def test_what_is_refused_may_be_long(self):
        row = [(at, at + 1, 0, 1) for at in range(1500)]
        self.refused(BadRoads, 1500, 2000, row + [(1500, 0, 0, 1)], [])
        self.refused(BadRoads, 1500, 2000, row[::-1] + [(1500, 0, 0, 1)], [])
        self.refused(BadRoads, 60000, 2, [(0, 1, 0, 1)] * 60000 + [(1, 0, 0, 1)], [])
        self.refused(BadRoads, 0, 10 ** 30, [None], [])


class DoorsTest(HouseCase):

    def test_no_list(self):
        for thing in no_lists():
            self.refused(BadDoors, 0, 5, H_ROADS, thing)

    def test_no_triple(self):
        things = no_lists() + ["in0", [], (), ("in", 0), ("in", 0, 0, 0), ["in"], deep(45), {"in": 0, 0: 0, 1: 0}]
        for thing in things:
            for at in range(4):
                doors = H_DOORS[:at] + [thing] + H_DOORS[at:]
                self.refused(BadDoors, at, 5, H_ROADS, doors)
                self.refused(BadDoors, at, 5, H_ROADS, tuple(doors))

    def test_a_wrong_thing_at_each_place_of_a_door(self):
        sorts = no_numbers() + [0, 1, "", "i", "IN", "In", "inn", "in ", "n", "out ", "outin", b"in", ("in",), ["out"]]
        for at, wrong in enumerate((sorts, no_numbers() + [5, 10 ** 9], no_numbers())):
            for thing in wrong:
                door = ["in", 0, 0]
                door[at] = thing
                for form in (door, tuple(door)):
                    self.refused(BadDoors, 0, 5, H_ROADS, [form])
                    self.refused(BadDoors, 4, 5, H_ROADS, H_DOORS + [form, None])

    def test_both_sorts_at_one_place(self):
        self.refused(BadDoors, 1, 5, H_ROADS, [("in", 0, 0), ("out", 0, 0)])
        self.refused(BadDoors, 1, 5, H_ROADS, [("out", 0, 3), ("in", 0, 0)])
        self.refused(BadDoors, 4, 5, H_ROADS, H_DOORS + [("out", 0, 0), ("in", 3, 0)])
        self.refused(BadDoors, 3, 5, H_ROADS, [("in", 0, 0), ("in", 0, 1), ("out", 1, 0), ("in", 1, 0), None])
        self.refused(BadDoors, 1, 5, [], [["in", 0, 0], ("in", 9, 0), ["out", 0, 0]])

    def test_the_first_of_several(self):
        self.refused(BadDoors, 1, 5, H_ROADS, [H_DOORS[0], None, ("out", 0, 0)])
        self.refused(BadDoors, 1, 5, H_ROADS, [H_DOORS[0], ("out", 0, 0), None])

    def test_all_of_one_sort(self):
        for sort in ("in", "out"):
            doors = [(sort, 0, 0), (sort, 0, 0), (sort, 4, 10 ** 9)]
            self.assertEqual(House(5, H_ROADS, doors).doors(), doors)

    def test_houses_within_are_refused_as_all_else(self):
        self.refused(BadDoors, 0, 5, H_ROADS, [example_house()])
        self.refused(BadRoads, 0, 5, [example_house()], H_DOORS)
        self.refused(BadRoads, 0, 5, example_house(), H_DOORS)


if __name__ == "__main__":
    unittest.main()
