"""What [2.1] and [2.2] ask of every function of the interface."""

import importlib
import inspect
import os
import unittest

from lastbell.desk import Desk
from lastbell.errors import (BadAmount, BadBell, BadDoor, BadHouse, BadLoads, BadLot, BadMoments, BadNumbers,
                             BadOrder, BadParts, BadPlan, BadPrices, BadSteps, BadTurn, BadTurns, BadWishes,
                             BellError, Lacks, Never, NotBooked, NotKept, OtherDoors, SameDoor)
from lastbell.houses import House
from lastbell.kept import lot_for
from lastbell.lots import most_plan
from lastbell.mixes import mix_for
from lastbell.orders import plan_by_order
from lastbell.plans import bell_of, brings, is_plan, on_roads
from lastbell.rows import plan_for, row_for
from lastbell.turned import turned_plan
from tests.made import H_ROADS, example
from tests.means import near_houses
from tests.refusals import (Parameter, a_bell, a_house, a_lot, a_thing, an_order, bad_wishes, judge_names,
                            judge_refusals, judge_unchanged, listed, some_numbers, tupled)
from tests.test_alike import WIDER
from tests.test_dearest import some_prices
from tests.test_further import KEPT, bad_doors
from tests.test_plans import DOORS, ROADS, no_forms
from tests.test_steps import no_steps
from tests.things import deep, no_houses, no_lists, no_numbers
from tests.wished import kept_wishes

PLAN = (DOORS, ROADS)


def some_wishes():
    return Parameter("wishes", KEPT, bad_wishes(), BadWishes)


def a_plan():
    wrong = [thing for thing in no_forms()] + [([[(0, 3), (3, 0)], *DOORS[1:]], ROADS), (DOORS, [[], *ROADS[1:]])]
    return Parameter("plan", PLAN, wrong, BadPlan)


def a_door(name, right, others=()):
    return Parameter(name, right, bad_doors() + list(others), BadDoor, "door")


def bad_moments():
    """Things that are no list of five numbers."""
    return no_lists() + [[], (), [0] * 4, [0] * 6, deep(45), [0, 0, 0, 0, -1], [True, 0, 0, 0, 0], ["0"] * 5, "00000"]


def interface():
    """By files and names, the parameters of each function; of those that have a house, it is the first."""
    wishes, bell, lot = some_wishes(), a_bell(), a_lot()
    kept = [wishes, bell]
    steps = Parameter("steps", [(1, 2), (5, 0)], no_steps(), BadSteps)
    turn = Parameter("turn", 2, no_numbers(), BadTurn)
    lists = Parameter("lists", [[(1, 2), (5, 0)], []], no_lists(), BadSteps, "steps")
    found = {
        "part": {"part_for": [some_numbers(), bell], "part_lot": [some_numbers(), bell]},
        "bells": {"least_bell": [wishes], "never": [wishes], "rising": [wishes],
                  "bell_with": [wishes, a_door("door", 0, (2, 3)), a_door("other", 3, (0, 1))]},
        "lots": {"most": [lot, bell], "most_plan": [lot, bell], "levels": [lot], "steady": [lot],
                 "lot_bell": [lot, Parameter("amount", 9, no_numbers(), BadAmount)]},
        "mixes": {"mix_for": kept, "is_mix_for": [*kept, a_thing()]},
        "parts": {"parted": [Parameter("parts", [(0, 1, 2)])]},
        "turned": {"turned": [], "turned_plan": [a_plan(), Parameter("bell", 7, no_numbers() + [0, 3], BadBell)]},
        "rows": {"row_for": kept, "is_row_for": [*kept, a_thing()], "plan_for": kept},
        "alike": {"first_unlike": [Parameter("other", WIDER, no_houses(), BadHouse, "thing")],
                  "parting": [Parameter("other", WIDER, no_houses(), BadHouse, "thing")]},
        "further": {"further": [*kept, a_door("up", 0), a_door("down", 3)], "tight": kept,
                    "bound": [*kept, a_door("door", 1)], "times": kept, "whole_times": kept},
        "plans": {"plan_fault": [a_thing()], "is_plan": [a_thing()], "brings": [a_plan()], "bell_of": [a_plan()],
                  "on_roads": [a_plan(), turn]},
        "moments": {"is_moments": [lot, bell, a_thing()], "moments_for": [lot, bell],
                    "worth": [Parameter("moments", [0, 1, 5, 8, 7], bad_moments(), BadMoments)]},
        "dearest": {"dearest_order": [bell, some_prices()], "dearest": [bell, some_prices()]},
        "orders": {"plan_by_order": [an_order(), bell], "corner": [an_order(), bell], "corners": [bell],
                   "order_of": kept},
        "kept": {"asked": [wishes, lot], "lacking": kept, "lot_for": kept, "is_lot_for": [*kept, a_thing()],
                 "is_plan_for": [*kept, a_thing()]},
        "desk": {"Desk": [bell]},
    }
    told = {(file, name): [a_house(), *parameters] for file, names in found.items() for name, parameters in names.items()}
    told.update({("steps", "is_steps"): [a_thing()], ("steps", "rate_at"): [steps, turn],
                 ("steps", "passed"): [steps, turn], ("steps", "together"): [lists],
                 ("steps", "later"): [steps, Parameter("turns", 3, no_numbers(), BadTurns)]})
    return told


def functions():
    for (file, name), parameters in interface().items():
        yield getattr(importlib.import_module("lastbell." + file), name), parameters


class InterfaceTest(unittest.TestCase):

    def test_names_and_parameters(self):
        for ask, parameters in functions():
            names = [one.name for one in parameters]
            self.assertEqual(list(inspect.signature(ask).parameters), names, ask)
            for one in inspect.signature(ask).parameters.values():
                self.assertIs(one.kind, inspect.Parameter.POSITIONAL_OR_KEYWORD, ask)
                self.assertIs(one.default, inspect.Parameter.empty, ask)

    def test_defined_in_their_files(self):
        for file, name in interface():
            thing = getattr(importlib.import_module("lastbell." + file), name)
            self.assertEqual(thing.__module__, "lastbell." + file)
            self.assertEqual(thing.__name__, name)

    def test_of_the_document(self):
        """The names that the document's last list shows, where the document lies beside the project."""
        path = os.path.join(os.path.dirname(__file__), "..", "..", "shared", "DOC.md")
        if os.path.exists(path):
            with open(path, encoding="utf-8") as file:
                rows = [row for row in file.read().split("# The interface")[1].split("\n") if row.startswith("- ")]
            shown = {}
            for row in rows:
                name, rest = row[2:].split(".py: ")
                for part in rest.split(" with ")[0].rstrip(".").split("; "):
                    shown[name, part.split("(")[0]] = part.split("(")[1].rstrip(")").split(", ")
            shown.pop(("houses", "House"))
            mine = {key: [one.name for one in parameters] for key, parameters in interface().items()}
            self.assertEqual(mine, shown)

    def test_right_things_are_let(self):
        for ask, parameters in functions():
            right = [one.right for one in parameters]
            if ask is not Desk:
                judge_names(self, ask, parameters)
                judge_unchanged(self, ask, right)

    def test_no_house_ahead_of_all_else(self):
        for ask, parameters in functions():
            if parameters[0].name == "house":
                names = [one.name for one in parameters]
                for thing in no_houses():
                    for others in ([None for _ in names[1:]], [one.right for one in parameters[1:]], [deep(9) for _ in names[1:]],
                                   [-1 for _ in names[1:]]):
                        for call in (lambda: ask(thing, *others), lambda: ask(**dict(zip(names[::-1], [*others[::-1], thing])))):
                            with self.assertRaises(BadHouse) as caught:
                                call()
                            self.assertIs(caught.exception.thing, thing)

    def test_each_parameter_ahead_of_the_later_ones(self):
        for ask, parameters in functions():
            judge_refusals(self, ask, parameters)

    def test_errors_named_last(self):
        """Those that are due only if all parameters are right."""
        lacks = [12, 4, 11, 5]
        shut = House(4, [], [("in", 0, 0), ("in", 1, 0), ("out", 2, 0), ("out", 3, 0)])
        desk = Desk(example(), 7)
        for error, call, values in (
                (NotKept, "further", (example(), lacks, 7, 0, 1)), (NotKept, "tight", (example(), lacks, 7)),
                (NotKept, "bound", (example(), lacks, 7, 0)), (SameDoor, "further", (example(), lacks, 7, 1, 1)),
                (Never, "rising", (shut, KEPT)), (OtherDoors, "parting", (example(), House(1, [], []))),
                (BadParts, "parted", (example(), [(0, 0, 0)])), (Lacks, desk.book, (0, 2, 13)),
                (NotBooked, desk.cancel, (0, 2, 1)), (BadLoads, desk.book, (0, 2, 0)), (Lacks, desk.book, (0, 2, 10 ** 30))):
            found = [ask for ask, _ in functions() if ask.__name__ == call]
            with self.assertRaises(error) as caught:
                (found[0] if found else call)(*values)
            self.assertIsInstance(caught.exception, BellError)


class RefusedPlansTest(unittest.TestCase):
    """[4.2], [4.3] and [13.1]: plans that are none, of another house, and made good."""

    def asked(self):
        return [(brings, ()), (bell_of, ()), (on_roads, (2,)), (turned_plan, (40,))]

    def test_the_first_of_house_plan_and_turn(self):
        wrong = ([[(0, 3), (3, 0)], *DOORS[1:]], ROADS)
        for ask, others in self.asked():
            with self.assertRaises(BadHouse):
                ask(None, wrong, *[None for _ in others])
            with self.assertRaises(BadPlan) as caught:
                ask(example(), wrong, *[None for _ in others])
            self.assertIs(caught.exception.plan, wrong)
        with self.assertRaises(BadTurn):
            on_roads(example(), PLAN, None)
        with self.assertRaises(BadBell):
            turned_plan(example(), PLAN, None)

    def test_plans_of_another_house(self):
        """Of as many doors and roads, but with a room too small, an hour too late, or a road another way."""
        others = [House(5, [(0, 2, 1, 1), *H_ROADS[1:]], example().doors()),
                  House(5, [(0, 2, 2, 2), *H_ROADS[1:]], example().doors()),
                  House(5, [(0, 3, 1, 2), *H_ROADS[1:]], example().doors()),
                  House(5, H_ROADS, [("in", 0, 1), *example().doors()[1:]]),
                  House(5, H_ROADS, example().doors()[::-1]),
                  House(5, H_ROADS[:4], example().doors()), House(5, H_ROADS, example().doors()[:3])]
        for other in others:
            self.assertFalse(is_plan(other, PLAN))
            for ask, passed in self.asked():
                with self.assertRaises(BadPlan) as caught:
                    ask(other, PLAN, *passed)
                self.assertIs(caught.exception.plan, PLAN)
                self.assertIsNotNone(ask(example(), PLAN, *passed))

    def test_made_good_and_spoilt(self):
        for number in range(0, 60, 4):
            house, wishes, bell, plan = kept_wishes(number)
            passed = listed(plan)
            steps = [one for one in passed[0] + passed[1] if one]
            if not steps:
                continue
            for _ in range(2):
                self.assertEqual(brings(house, passed), wishes)
                self.assertEqual(bell_of(house, passed), bell)
                told = turned_plan(house, passed, bell), on_roads(house, passed, 3)
                steps[0][-1][0] += 1
                for ask, others in self.asked():
                    with self.assertRaises(BadPlan) as caught:
                        ask(house, passed, *others)
                    self.assertIs(caught.exception.plan, passed)
                steps[0][-1][0] -= 1
                self.assertEqual((turned_plan(house, passed, bell), on_roads(house, passed, 3)), told)

    def test_hours_that_are_made_good(self):
        doors = [("in", 0, 1), ("out", 1, 0)]
        plan = ([[(0, 1), (1, 0)], [(2, 1), (3, 0)]], [[(0, 1), (1, 0)]])
        for ask, others in self.asked():
            with self.assertRaises(BadPlan):
                ask(House(2, [(0, 1, 2, 1)], doors), plan, *others)
            self.assertIsNotNone(ask(House(2, [(0, 1, 2, 1)], [("in", 0, 0), doors[1]]), plan, *others))


class SamenessTest(unittest.TestCase):

    def test_what_is_told_may_be_passed_on(self):
        """As lists or as tuples; told things are judged right by what judges them."""
        for number, house in enumerate(near_houses()[::6]):
            again = House(house.places(), tupled(house.roads()), listed(house.doors()))
            none = [0 for _ in house.doors()]
            for turn_into in (listed, tupled):
                plan = plan_by_order(house, list(range(len(none))), 9)
                self.assertTrue(is_plan(again, turn_into(plan)))
                wishes = turn_into(brings(again, turn_into(plan)))
                self.assertIsNone(lot_for(again, wishes, 9))
                self.assertEqual(brings(again, turn_into(plan_for(again, wishes, 9))), list(wishes))
                for ask in (plan_for, row_for, mix_for):
                    self.assertEqual(ask(again, wishes, 9), ask(house, list(wishes), 9))
                self.assertEqual(most_plan(again, turn_into([0]), 9), most_plan(house, [0], 9))


if __name__ == "__main__":
    unittest.main()
