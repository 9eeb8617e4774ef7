"""Steps put together from changes: dicts of how much the rate grows, or falls, at which turn."""


def change_between(changes, first, end, amount):
    """Adds so much to the rate at each turn from the first one on, ahead of the end."""
    changes[first] = changes.get(first, 0) + amount
    changes[end] = changes.get(end, 0) - amount


def steps_of(changes):
    steps = []
    rate = 0
    for turn in sorted(changes):
        if changes[turn] != 0:
            rate += changes[turn]
            steps.append((turn, rate))
    return steps
