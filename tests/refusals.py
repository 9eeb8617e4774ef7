"""Judges what functions refuse: each parameter none, ahead of others that are none, by place and by names."""

from lastbell.errors import BadBell, BadHouse, BadLot, BadNumbers, BadOrder, BadWishes
from tests.made import example
from tests.things import a_function, deep, no_houses, no_lists, no_numbers


class Parameter:
    """One that is right, things that are none, and the error that keeps the very thing."""

    def __init__(self, name, right, wrong=(), error=None, kept=None):
        self.name = name
        self.right = right
        self.wrong = wrong
        self.error = error
        self.kept = kept or name


def judge_refusals(case, ask, parameters):
    """Each thing of each parameter that is none is refused, whatever stands for the later ones."""
    for at, parameter in enumerate(parameters):
        ahead = [one.right for one in parameters[:at]]
        behind = [one.right for one in parameters[at + 1:]]
        wrong_behind = [one.wrong[0] if one.wrong else None for one in parameters[at + 1:]]
        for thing in parameter.wrong:
            for others in (behind, wrong_behind):
                refused(case, ask, parameters, [*ahead, thing, *others], at)


def refused(case, ask, parameters, passed, at):
    names = [one.name for one in parameters]
    backward = dict(reversed(list(zip(names, passed))))
    for call in (lambda: ask(*passed), lambda: ask(**backward)):
        with case.assertRaises(parameters[at].error) as caught:
            call()
        case.assertIs(type(caught.exception), parameters[at].error, (ask, passed))
        case.assertIs(getattr(caught.exception, parameters[at].kept), passed[at], (ask, passed))


def judge_names(case, ask, parameters):
    """The parameters have these names, in this order, and no others."""
    case.assertEqual(list(ask.__code__.co_varnames[:ask.__code__.co_argcount]), [one.name for one in parameters])
    right = [one.right for one in parameters]
    by_names = {one.name: one.right for one in reversed(parameters)}
    case.assertEqual(ask(*right), ask(**by_names))


def judge_unchanged(case, ask, passed):
    """Lists that are passed stay as they are, tuples mean the same, and what is told is another one each time."""
    lists = [listed(thing) for thing in passed]
    tuples = [tupled(thing) for thing in passed]
    told = ask(*lists)
    case.assertEqual(lists, [listed(thing) for thing in passed])
    case.assertEqual(ask(*tuples), told)
    again = ask(*lists)
    case.assertEqual(again, told)
    others = set(lists_within(passed) + lists_within(lists))
    case.assertFalse(set(lists_within(told)) & set(lists_within(again)), "told lists are told again")
    case.assertFalse(set(lists_within(told)) & others, "told lists are those that were passed")
    many = lists_within(told)
    case.assertEqual(len(many), len(set(many)), "one list stands twice in what is told")


def listed(thing):
    return [listed(one) for one in thing] if isinstance(thing, (list, tuple)) else thing


def tupled(thing):
    return tuple(tupled(one) for one in thing) if isinstance(thing, (list, tuple)) else thing


def lists_within(thing):
    """The lists within, by their ids: kept alive by what holds them."""
    if not isinstance(thing, (list, tuple)):
        return []
    found = [id(thing)] if isinstance(thing, list) else []
    for one in thing:
        found.extend(lists_within(one))
    return found


def bad_lots():
    """Things that are no lot of a house with four doors."""
    return no_lists() + [[0, 0], [1, 2, 1], (3, 3), [4], [0, 4], [-1], [0, -1], [10 ** 9], [True], [0, True],
                         [1, True], [False], ["0"], "01", [None], [[0]], [(0,)], [0, [1]], [{}], [a_function],
                         [0, 1, 2, 3, 4], [0, 1, 2, 3, 0], [example()], deep(45), list(range(5000)), [0] * 5000]


def bad_orders():
    """Things that are no order of a house with four doors."""
    return bad_lots() + [[], (), [0], [0, 1, 2], [1, 2, 3], (3, 2, 1), [0, 1, 2, 2], [0, 1, 2, 4], [1, 2, 3, 4],
                         [0, 1, 2, True], [False, 1, 2, 3], [0, 1, 2, -1], [3, 2, 1, None], [0, 1, 2, "3"]]


def bad_numbers():
    """Things that are no list of four numbers."""
    things = no_lists() + [[], (), [0], [0, 0, 0], [0, 0, 0, 0, 0], deep(45), [[0, 0, 0, 0]], "0000", list(range(5000))]
    for at in range(4):
        for thing in no_numbers():
            numbers = [4, 4, 4, 4]
            numbers[at] = thing
            things.append(numbers if at % 2 else tuple(numbers))
    return things


def bad_wishes():
    """Things that are no wishes for a house with two doors in, then two doors out."""
    return bad_numbers() + [[1, 0, 0, 0], [0, 0, 1, 0], (0, 1, 2, 0), [3, 4, 5, 1], [3, 4, 4, 4], [0, 0, 10 ** 21, 0]]


def a_house():
    return Parameter("house", example(), no_houses(), BadHouse, "thing")


def a_lot():
    return Parameter("lot", [1, 0], bad_lots(), BadLot)


def a_bell():
    return Parameter("bell", 7, no_numbers(), BadBell)


def some_wishes():
    return Parameter("wishes", [12, 4, 11, 5], bad_wishes(), BadWishes)


def some_numbers():
    return Parameter("numbers", [12, 4, 11, 9], bad_numbers(), BadNumbers)


def an_order():
    return Parameter("order", [1, 0, 3, 2], bad_orders(), BadOrder)


def a_thing():
    return Parameter("thing", None)
