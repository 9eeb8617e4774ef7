"""All errors of the package. Each keeps the very objects that it is made with."""


class BellError(ValueError):
    """The base of all errors of the package."""


class BadHouse(BellError):
    """What was passed as a house is none."""

    def __init__(self, thing):
        self.thing = thing


class BadPlaces(BellError):
    """The number of places is none."""

    def __init__(self, places):
        self.places = places


class BadRoads(BellError):
    """A thing in the list of roads is no road, or closes a ring that takes no turn."""

    def __init__(self, index):
        self.index = index


class BadDoors(BellError):
    """A thing in the list of doors is no door, or stands beside one of the other sort."""

    def __init__(self, index):
        self.index = index


class BadSteps(BellError):
    """What was passed as steps is none."""

    def __init__(self, steps):
        self.steps = steps


class BadTurn(BellError):
    """What was passed as a turn is none."""

    def __init__(self, turn):
        self.turn = turn


class BadTurns(BellError):
    """What was passed as a number of turns is none."""

    def __init__(self, turns):
        self.turns = turns


class BadPlan(BellError):
    """What was passed as a plan of the house is none."""

    def __init__(self, plan):
        self.plan = plan


class BadLot(BellError):
    """What was passed as a lot of the house's doors is none."""

    def __init__(self, lot):
        self.lot = lot


class BadBell(BellError):
    """What was passed as a bell is none."""

    def __init__(self, bell):
        self.bell = bell


class BadAmount(BellError):
    """What was passed as an amount is none."""

    def __init__(self, amount):
        self.amount = amount


class BadMoments(BellError):
    """What was passed as moments is none."""

    def __init__(self, moments):
        self.moments = moments


class BadOrder(BellError):
    """What was passed as an order of the house's doors is none."""

    def __init__(self, order):
        self.order = order


class BadWishes(BellError):
    """What was passed as wishes is none."""

    def __init__(self, wishes):
        self.wishes = wishes


class BadParts(BellError):
    """A thing in the list of parts is no part."""

    def __init__(self, index):
        self.index = index


class Never(BellError):
    """More is asked of a lot through which nothing ever gets."""

    def __init__(self, lot):
        self.lot = lot


class BadDoor(BellError):
    """What was passed as a door's number is none, or that of a door of the other sort."""

    def __init__(self, door):
        self.door = door


class SameDoor(BellError):
    """One door was passed where two unlike ones are asked for."""

    def __init__(self, door):
        self.door = door


class NotKept(BellError):
    """The wishes are not kept by the bell."""

    def __init__(self, lot):
        self.lot = lot


class BadNumbers(BellError):
    """What was passed as numbers, one for each door, is none."""

    def __init__(self, numbers):
        self.numbers = numbers


class BadPrices(BellError):
    """What was passed as prices is none."""

    def __init__(self, prices):
        self.prices = prices


class OtherDoors(BellError):
    """The two houses have not as many doors, of the same sorts in order."""


class BadLoads(BellError):
    """What was passed as a number of loads is none."""

    def __init__(self, loads):
        self.loads = loads


class Lacks(BellError):
    """A lot would lack, or does."""

    def __init__(self, lot, left):
        self.lot = lot
        self.left = left


class NotBooked(BellError):
    """Fewer loads are booked than are to be taken away."""

    def __init__(self, loads):
        self.loads = loads
