"""Steps put together from changes: dicts of how much the rate grows, or falls, at which turn."""


def change_from(changes, turn, amount):
    """Adds so much to the rate at each turn from this one on."""
    changes[turn] = changes.get(turn, 0) + amount


def change_between(changes, first, end, amount):
    """Adds so much to the rate at each turn from the first one on, ahead of the end."""
    change_from(changes, first, amount)
    change_from(changes, end, -amount)


def change_by_steps(changes, steps, turns, times):
    """Adds the rates of steps so many turns later, so many times."""
    before = 0
    for turn, rate in steps:
        change_from(changes, turn + turns, (rate - before) * times)
        before = rate


def steps_of(changes):
    steps = []
    rate = 0
    for turn in sorted(changes):
        if changes[turn] != 0:
            rate += changes[turn]
            steps.append((turn, rate))
    return steps
