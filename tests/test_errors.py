import unittest

from lastbell import errors
from tests.things import a_function, deep, example_house

PARAMETERS = {
    "BadHouse": ["thing"], "BadPlaces": ["places"], "BadRoads": ["index"], "BadDoors": ["index"],
    "BadSteps": ["steps"], "BadTurn": ["turn"], "BadTurns": ["turns"], "BadPlan": ["plan"], "BadLot": ["lot"],
    "BadBell": ["bell"], "BadAmount": ["amount"], "BadMoments": ["moments"], "BadOrder": ["order"],
    "BadWishes": ["wishes"], "BadParts": ["index"], "Never": ["lot"], "BadDoor": ["door"], "SameDoor": ["door"],
    "NotKept": ["lot"], "BadNumbers": ["numbers"], "BadPrices": ["prices"], "OtherDoors": [],
    "BadLoads": ["loads"], "Lacks": ["lot", "left"], "NotBooked": ["loads"],
}


def some_objects():
    return [0, -5, True, None, "", "text", [], [1, [2]], (1, (2,)), {"a": [1]}, a_function, example_house(), deep(45)]


class ErrorsTest(unittest.TestCase):

    def test_bases(self):
        self.assertEqual(errors.BellError.__bases__, (ValueError,))
        for name in PARAMETERS:
            self.assertEqual(getattr(errors, name).__bases__, (errors.BellError,), name)

    def test_defined_in_their_file(self):
        for name in list(PARAMETERS) + ["BellError"]:
            self.assertEqual(getattr(errors, name).__module__, "lastbell.errors")

    def test_no_others(self):
        found = {name for name, thing in vars(errors).items() if isinstance(thing, type)}
        self.assertEqual(found, set(PARAMETERS) | {"BellError"})

    def test_keep_the_very_objects(self):
        for name, parameters in PARAMETERS.items():
            make = getattr(errors, name)
            for shift in range(len(some_objects())):
                objects = some_objects()
                passed = {key: objects[shift - at] for at, key in enumerate(parameters)}
                for error in (make(*passed.values()), make(**passed)):
                    for key in parameters:
                        self.assertIs(getattr(error, key), passed[key], name)

    def test_keep_what_grows_later(self):
        for name, parameters in PARAMETERS.items():
            make = getattr(errors, name)
            grown = [[at] for at in range(len(parameters))]
            by_place, by_names = make(*grown), make(**dict(zip(parameters, grown)))
            for thing in grown:
                thing.append("more")
            for at, key in enumerate(parameters):
                self.assertEqual(getattr(by_place, key), [at, "more"])
                self.assertEqual(getattr(by_names, key), [at, "more"])
                self.assertIs(getattr(by_place, key), grown[at])

    def test_ask_for_all_their_parameters_and_no_more(self):
        for name, parameters in PARAMETERS.items():
            make = getattr(errors, name)
            with self.assertRaises(TypeError):
                make(**{key: 0 for key in parameters}, other=1)
            if parameters:
                with self.assertRaises(TypeError):
                    make()

    def test_are_caught_as_their_bases(self):
        for name, parameters in PARAMETERS.items():
            for base in (errors.BellError, ValueError):
                with self.assertRaises(base):
                    raise getattr(errors, name)(*[0 for _ in parameters])


if __name__ == "__main__":
    unittest.main()
