import random
import unittest

from lastbell import steps as module
from lastbell.errors import BadSteps, BadTurn, BadTurns
from lastbell.steps import is_steps, later, passed, rate_at, together
from tests.judged import fault_of_steps
from tests.refusals import Parameter, judge_names, judge_refusals, judge_unchanged
from tests.things import a_function, deep, example_house, no_lists, no_numbers

FAR = 10 ** 13
WIDE = 10 ** 12 + 1


def made_steps(seed, pairs=5, far=1, rates=(0, 1, 2, 3)):
    chance = random.Random(seed)
    steps, turn, before = [], chance.choice((-1, 0, 3)) * far, 0
    for _ in range(chance.randint(0, pairs)):
        turn += chance.randint(1, 4) * far
        rate = chance.choice([rate for rate in rates if rate != before])
        steps.append((turn, rate))
        before = rate
    if before != 0:
        steps.append((turn + chance.randint(1, 4) * far, 0))
    while steps and steps[0][0] < 0:
        steps = [(at + far, rate) for at, rate in steps]
    return steps


def far_steps(pairs=100):
    """So many pairs, the last turn 10 ** 13, rates to 10 ** 12 and one."""
    gap = FAR // pairs
    return [(FAR - gap * (pairs - 1 - at), 0 if at == pairs - 1 else WIDE - at % 2) for at in range(pairs)]


def by_turns(steps, end):
    """How many pass at each turn ahead of the end, walked turn by turn."""
    table, rate = dict(steps), 0
    walked = []
    for turn in range(end):
        rate = table.get(turn, rate)
        walked.append(rate)
    return walked


def from_turns(walked):
    steps, before = [], 0
    for turn, rate in enumerate([*walked, 0]):
        if rate != before:
            steps.append((turn, rate))
        before = rate
    return steps


def nearly_steps():
    """Things with one fault each, at each place of steps."""
    right = [(2, 3), (5, 1), (6, 4), (9, 0)]
    found = []
    for at, (turn, rate) in enumerate(right):
        def put(pair):
            found.append(right[:at] + [pair] + right[at + 1:])
        if at:
            put((right[at - 1][0], rate))
            put((right[at - 1][0] - 1, rate))
            put((0, rate))
            put((turn, right[at - 1][1]))
        for thing in no_numbers():
            put((thing, rate))
            put((turn, thing))
        for pair in no_lists() + ["ab", (), (turn,), (turn, rate, 0), [turn], [turn, rate, rate], [[turn, rate]],
                                  {turn: rate, 0: 0}, deep(45)]:
            put(pair)
        found.append(right[:at] + [None] + right[at:])
        found.append(right[:at] + [right[at]] + right[at:])
    found += [right[:1], right[:2], right[:3], right[1:2] + right[3:] + [(10, 1)], [(0, 0), *right], [(0, 0)], [(5, 0)], [(2, 0), (5, 1), (9, 0)], [(2, 3)], [(2, 3), (5, 1)], [(0, 1), (1, 1), (2, 0)],
              [(0, 1), (1, 0), (2, 0)], [(0, 1), (1, 0), (1, 1), (2, 0)], [()], [[]], [(0, True), (1, 0)],
              [(0, 1), (True, 0)], [(False, 1), (1, 0)], [(0, 1), (1, False)], [(-1, 1), (1, 0)], [(0, -1), (1, 0)]]
    return found


def no_steps():
    return no_lists() + [example_house(), deep(45), [a_function], ["ab"], "ab"] + nearly_steps()


def some_steps(right=((2, 3), (5, 0))):
    return Parameter("steps", list(right), no_steps(), BadSteps)


class IsStepsTest(unittest.TestCase):

    def test_steps(self):
        for steps in ([], (), [(0, 1), (1, 0)], [[0, 1], [1, 0]], ([2, 3], (5, 1), [6, 4], (9, 0)),
                      [(0, 2), (3, 0), (4, 2), (5, 0)], [(FAR, WIDE), (FAR + 1, 0)], far_steps()):
            self.assertIs(is_steps(steps), True)
        for seed in range(200):
            self.assertIs(is_steps(made_steps(seed)), True)
            self.assertIsNone(fault_of_steps(made_steps(seed)))

    def test_no_steps(self):
        for thing in no_steps():
            self.assertIs(is_steps(thing), False, thing)
            if isinstance(thing, list):
                self.assertIs(is_steps(tuple(thing)), False, thing)

    def test_one_fault_in_a_hundred_pairs(self):
        right = far_steps()
        for at in range(100):
            turn, rate = right[at]
            for pair in ((turn, True), (str(turn), rate), (turn, -rate - 1), (turn,), None):
                self.assertIs(is_steps(right[:at] + [pair] + right[at + 1:]), False)
            if at:
                self.assertIs(is_steps(right[:at] + [(right[at - 1][0], rate)] + right[at + 1:]), False)
                self.assertIs(is_steps(right[:at] + [(turn, right[at - 1][1])] + right[at + 1:]), False)

    def test_what_is_refused_may_be_long(self):
        self.assertIs(is_steps([(at, 1 + at % 2) for at in range(50000)]), False)
        self.assertIs(is_steps([(at, 1 + at % 2) for at in range(50000)] + [(50000, 0)]), True)

    def test_by_names(self):
        self.assertIs(is_steps(thing=[]), True)
        judge_names(self, is_steps, [Parameter("thing", [(0, 1)])])


class RateTest(unittest.TestCase):

    def test_walked_turn_by_turn(self):
        for seed in range(150):
            steps = made_steps(seed)
            walked = by_turns(steps, 40)
            for turn in range(40):
                self.assertEqual(rate_at(steps, turn), walked[turn], (steps, turn))
                self.assertEqual(passed(steps, turn), sum(walked[:turn + 1]), (steps, turn))

    def test_ahead_at_between_and_behind(self):
        steps = [(3, 2), (6, 5), (7, 0), (9, 1), (20, 0)]
        for turn, rate, amount in ((0, 0, 0), (2, 0, 0), (3, 2, 2), (4, 2, 4), (5, 2, 6), (6, 5, 11), (7, 0, 11),
                                   (8, 0, 11), (9, 1, 12), (19, 1, 22), (20, 0, 22), (21, 0, 22), (FAR, 0, 22)):
            self.assertEqual(rate_at(steps, turn), rate)
            self.assertEqual(passed(steps, turn), amount)

    def test_nobody(self):
        for turn in (0, 1, FAR):
            self.assertEqual(rate_at([], turn), 0)
            self.assertEqual(passed((), turn), 0)

    def test_far(self):
        steps = far_steps()
        total = 0
        for (turn, rate), (end, _) in zip(steps, steps[1:]):
            for at, had in ((turn - 1, 0), (turn, 1), (turn + 12345, 12346), (end - 1, end - turn)):
                self.assertEqual(passed(steps, at), total + rate * had)
                self.assertEqual(rate_at(steps, at), rate if had else rate_at(steps, turn - 1))
            total += rate * (end - turn)
        self.assertEqual(passed(steps, FAR), total)
        self.assertEqual(passed(steps, FAR * 10), total)
        self.assertEqual(passed([(0, WIDE), (FAR, 0)], FAR - 1), WIDE * FAR)
        self.assertEqual(rate_at([(0, WIDE), (FAR, 0)], FAR - 1), WIDE)
        self.assertEqual(rate_at([(0, WIDE), (FAR, 0)], FAR), 0)

    def test_kinds_and_forms(self):
        for form in ([(1, 2), (4, 0)], [[1, 2], [4, 0]], ((1, 2), (4, 0)), ([1, 2], (4, 0))):
            self.assertIs(type(rate_at(form, 2)), int)
            self.assertEqual(rate_at(form, 2), 2)
            self.assertEqual(passed(form, 2), 4)

    def test_lists_that_change_between_two_calls(self):
        steps = [[1, 2], [4, 0]]
        self.assertEqual((rate_at(steps, 3), passed(steps, 3), is_steps(steps)), (2, 6, True))
        steps[0][1] = 5
        self.assertEqual((rate_at(steps, 3), passed(steps, 3), is_steps(steps)), (5, 15, True))
        steps[1][0] = 3
        self.assertEqual((rate_at(steps, 3), passed(steps, 3), is_steps(steps)), (0, 10, True))
        steps.pop()
        self.assertIs(is_steps(steps), False)
        with self.assertRaises(BadSteps):
            rate_at(steps, 3)
        with self.assertRaises(BadSteps):
            passed(steps, 3)

    def test_refused(self):
        for ask in (rate_at, passed):
            parameters = [some_steps(), Parameter("turn", 3, no_numbers(), BadTurn)]
            judge_refusals(self, ask, parameters)
            judge_names(self, ask, parameters)
            for steps in ([], [(5, 1), (7, 0)]):
                with self.assertRaises(BadTurn):
                    ask(steps, -1)


class TogetherTest(unittest.TestCase):

    def test_added_up_turn_by_turn(self):
        for seed in range(200):
            lists = [made_steps(seed * 7 + at, far=1) for at in range(seed % 6)]
            walked = [sum(rates) for rates in zip(*[by_turns(steps, 60) for steps in lists])]
            told = together(lists)
            self.assertEqual(told, from_turns(walked), lists)
            self.assertIsNone(fault_of_steps(told))

    def test_none_and_one(self):
        for lists in ([], (), [[]], ([], ()), [(), [], ()]):
            self.assertEqual(together(lists), [])
            self.assertIs(type(together(lists)), list)
        for seed in range(30):
            self.assertEqual(together([made_steps(seed)]), made_steps(seed))

    def test_rates_that_come_out_alike(self):
        self.assertEqual(together([[(0, 2), (3, 0)], [(3, 2), (5, 0)]]), [(0, 2), (5, 0)])
        self.assertEqual(together([[(0, 2), (3, 1), (5, 0)], [(3, 1), (5, 2), (6, 0)]]), [(0, 2), (6, 0)])
        self.assertEqual(together([[(0, 1), (3, 0)], [(4, 1), (5, 0)]]), [(0, 1), (3, 0), (4, 1), (5, 0)])

    def test_far(self):
        self.assertEqual(together([far_steps()] * 100), [(turn, rate * 100) for turn, rate in far_steps()])
        self.assertEqual(together([[(FAR, WIDE), (FAR + 1, 0)], [(0, 1), (FAR, 0)]]),
                         [(0, 1), (FAR, WIDE), (FAR + 1, 0)])

    def test_kinds(self):
        for lists in ([[[1, 2], [4, 0]], ((1, 2), (4, 0))], (([1, 2], (4, 0)), [[1, 2], [4, 0]])):
            told = together(lists)
            self.assertEqual(told, [(1, 4), (4, 0)])
            self.assertIsNone(fault_of_steps(told))
            judge_unchanged(self, together, [lists])

    def test_told_lists_are_new(self):
        steps = [(1, 2), (4, 0)]
        for lists in ([steps], [steps, []], [[], steps]):
            told = together(lists)
            told.append("more")
            self.assertEqual(steps, [(1, 2), (4, 0)])
            self.assertEqual(together(lists), steps)

    def test_lists_that_change_between_two_calls(self):
        lists = [[[1, 2], [4, 0]]]
        told = together(lists)
        lists[0][0][1] = 7
        self.assertEqual(told, [(1, 2), (4, 0)])
        self.assertEqual(together(lists), [(1, 7), (4, 0)])
        lists.append([[0, 1], [1, 0]])
        self.assertEqual(together(lists), [(0, 1), (1, 7), (4, 0)])

    def test_refused(self):
        wholes = Parameter("lists", [[]], no_lists(), BadSteps, "steps")
        judge_refusals(self, together, [wholes])
        judge_names(self, together, [wholes])

    def test_the_first_that_is_none(self):
        right = [(2, 3), (5, 0)]
        for thing in no_steps():
            for at in range(4):
                for other in (right, None, [(1, 0)]):
                    lists = [right] * at + [thing] + [other] * 2
                    for form in (lists, tuple(lists)):
                        with self.assertRaises(BadSteps) as caught:
                            together(form)
                        self.assertIs(caught.exception.steps, thing)


class LaterTest(unittest.TestCase):

    def test_turn_by_turn(self):
        for seed in range(100):
            steps = made_steps(seed)
            for turns in (0, 1, 5):
                told = later(steps, turns)
                self.assertEqual(told, from_turns([0] * turns + by_turns(steps, 60)))
                self.assertIsNone(fault_of_steps(told))

    def test_far(self):
        self.assertEqual(later(far_steps(), FAR), [(turn + FAR, rate) for turn, rate in far_steps()])
        self.assertEqual(later([], FAR), [])

    def test_kinds(self):
        for form in ([(1, 2), (4, 0)], [[1, 2], [4, 0]], ((1, 2), (4, 0)), ([1, 2], (4, 0)), [], ()):
            for turns in (0, 2):
                told = later(form, turns)
                self.assertIsNone(fault_of_steps(told))
                judge_unchanged(self, later, [form, turns])

    def test_later_changes_have_no_effect(self):
        steps = [[1, 2], [4, 0]]
        told = later(steps, 1)
        steps[0][1] = 9
        steps.clear()
        self.assertEqual(told, [(2, 2), (5, 0)])

    def test_refused(self):
        parameters = [some_steps(), Parameter("turns", 3, no_numbers(), BadTurns)]
        judge_refusals(self, later, parameters)
        judge_names(self, later, parameters)
        with self.assertRaises(BadTurns):
            later([], -1)

    def test_defined_in_their_file(self):
        for ask in (is_steps, rate_at, passed, together, later):
            self.assertEqual(ask.__module__, module.__name__)


if __name__ == "__main__":
    unittest.main()
