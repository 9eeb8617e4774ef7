"""Steps: how many pass at each turn, as pairs (turn, rate) of the turns at which that changes."""

from lastbell.changes import change_by_steps, steps_of
from lastbell.errors import BadSteps, BadTurns
from lastbell.given import need_turn
from lastbell.kinds import is_list, is_number


def is_steps(thing):
    if not is_list(thing):
        return False
    last = -1
    before = 0
    for pair in thing:
        if not is_list(pair) or len(pair) != 2:
            return False
        turn, rate = pair
        if not is_number(turn) or not is_number(rate) or turn <= last or rate == before:
            return False
        last = turn
        before = rate
    return before == 0


def need_steps(steps):
    if not is_steps(steps):
        raise BadSteps(steps)


def rate_at(steps, turn):
    need_steps(steps)
    need_turn(turn)
    found = 0
    for start, rate in steps:
        if start <= turn:
            found = rate
    return found


def passed(steps, turn):
    need_steps(steps)
    need_turn(turn)
    return passed_ahead(steps, turn + 1)


def passed_ahead(steps, turn):
    """How many have passed ahead of a turn, which may also be one below 0: then nobody has."""
    total = 0
    for (start, rate), (end, _) in zip(steps, steps[1:]):
        if start < turn:
            total += rate * (min(end, turn) - start)
    return total


def together(lists):
    if not is_list(lists):
        raise BadSteps(lists)
    for steps in lists:
        need_steps(steps)
    changes = {}
    for steps in lists:
        change_by_steps(changes, steps, 0, 1)
    return steps_of(changes)


def later(steps, turns):
    need_steps(steps)
    if not is_number(turns):
        raise BadTurns(turns)
    return [(turn + turns, rate) for turn, rate in steps]
