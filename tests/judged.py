"""Plans judged by [4.1] to [4.3], in a way of the tests' own."""


def is_whole(thing):
    return type(thing) is int and thing >= 0


def fault_of_steps(steps):
    if type(steps) is not list:
        return "steps are no list"
    for pair in steps:
        if type(pair) is not tuple or len(pair) != 2 or not is_whole(pair[0]) or not is_whole(pair[1]):
            return "no pair of numbers"
    if not steps:
        return None
    turns = [turn for turn, _ in steps]
    rates = [rate for _, rate in steps]
    if any(late <= soon for soon, late in zip(turns, turns[1:])):
        return "turns do not rise"
    if rates[0] == 0 or rates[-1] != 0:
        return "first rate 0, or last one not"
    if any(one == other for one, other in zip(rates, rates[1:])):
        return "neighbours' rates are alike"
    return None


def rate(steps, turn):
    found = 0
    for start, many in steps:
        if start <= turn:
            found = many
    return found


def brought(steps):
    total = 0
    for (turn, many), (end, _) in zip(steps, steps[1:]):
        total += many * (end - turn)
    return total


def fault_of_plan(house, plan):
    """None, or what is wrong, at the turns at which anything changes: between them all stays as it is."""
    if type(plan) is not tuple or len(plan) != 2:
        return "no pair"
    doors, roads = plan
    if type(doors) is not list or type(roads) is not list:
        return "no lists"
    if len(doors) != len(house.doors()) or len(roads) != len(house.roads()):
        return "not just so many steps"
    for steps in doors + roads:
        if fault_of_steps(steps):
            return fault_of_steps(steps)
    turns = {0}
    for steps in doors:
        turns.update(turn for turn, _ in steps)
    for steps, (_, _, length, _) in zip(roads, house.roads()):
        turns.update(turn for turn, _ in steps)
        turns.update(turn + length for turn, _ in steps)
    for turn in sorted(turns):
        fault = fault_at(house, plan, turn)
        if fault:
            return fault
    return None


def fault_at(house, plan, turn):
    doors, roads = plan
    even = [0] * house.places()
    for number, (sort, place, hour) in enumerate(house.doors()):
        many = rate(doors[number], turn)
        if sort == "in" and many and turn < hour:
            return ("door", number, turn)
        even[place] += many if sort == "in" else -many
    for number, (begin, end, length, room) in enumerate(house.roads()):
        if rate(roads[number], turn) > room:
            return ("road", number, turn)
        even[begin] -= rate(roads[number], turn)
        even[end] += rate(roads[number], turn - length)
    if any(even):
        return ("place", even, turn)
    return None


def fault_turn_by_turn(house, plan, end):
    """As fault_of_plan, at each turn ahead of the end, with nothing left anywhere behind it."""
    for turn in range(end):
        fault = fault_at(house, plan, turn)
        if fault:
            return fault
    if any(steps and steps[-1][0] > end for steps in plan[0] + plan[1]):
        return "something goes behind the end"
    return None


def first_fault(house, plan, end):
    """The triple that plan_fault has to tell, by a walk turn by turn ahead of the end, None for a plan.

    The plan has the form of one, and nothing changes from the end on.
    """
    for turn in range(end):
        fault = fault_at(house, plan, turn)
        if fault:
            word, number, _ = fault
            if word == "place":
                number = [amount != 0 for amount in number].index(True)
            return turn, word, number
    return None


def fault_by_bell(house, plan, bell):
    """None if each OUT takes its last load at the latest its hour ahead of the bell."""
    for steps, (sort, _, hour) in zip(plan[0], house.doors()):
        if sort == "out" and steps and steps[-1][0] - 1 > bell - hour:
            return ("late", steps, hour)
    return None


def fault_of_lot(house, lot, plan):
    """None if only INS of the lot and OUTS that are not of it have any steps."""
    for number, (sort, _, _) in enumerate(house.doors()):
        if plan[0][number] and (number in lot) != (sort == "in"):
            return ("other door", number)
    return None


def loads_of(house, plan, sort):
    return sum(brought(steps) for steps, door in zip(plan[0], house.doors()) if door[0] == sort)


def fault_of_most_plan(house, lot, bell, plan, amount):
    """None if it is a plan through by the bell that brings so much from INS of the lot to OUTS not of it."""
    fault = fault_of_plan(house, plan)
    fault = fault or fault_by_bell(house, plan, bell) or fault_of_lot(house, lot, plan)
    if fault:
        return fault
    loads = loads_of(house, plan, "in"), loads_of(house, plan, "out")
    return None if loads == (amount, amount) else ("loads", loads, amount)
