"""Houses: places, the roads between them, and the doors at them."""

from lastbell.errors import BadDoors, BadPlaces, BadRoads
from lastbell.kinds import is_integer, is_list, is_number


class House:
    """A house. It never changes."""

    def __init__(self, places, roads, doors):
        if not is_integer(places) or places < 1:
            raise BadPlaces(places)
        wrong = first_wrong_road(places, roads)
        if wrong is not None:
            raise BadRoads(wrong)
        wrong = first_wrong_door(places, doors)
        if wrong is not None:
            raise BadDoors(wrong)
        self._places = places
        self._roads = [tuple(road) for road in roads]
        self._doors = [tuple(door) for door in doors]

    def places(self):
        return self._places

    def roads(self):
        return list(self._roads)

    def doors(self):
        return list(self._doors)

    def __eq__(self, other):
        return (isinstance(other, House) and self._places == other._places
                and self._roads == other._roads and self._doors == other._doors)


def is_place(places, thing):
    return is_number(thing) and thing < places


def is_road(places, thing):
    if not is_list(thing) or len(thing) != 4:
        return False
    begin, end, length, room = thing
    if not is_place(places, begin) or not is_place(places, end) or begin == end:
        return False
    return is_number(length) and is_number(room) and room > 0


def is_door(places, thing):
    if not is_list(thing) or len(thing) != 3:
        return False
    sort, place, hour = thing
    if not isinstance(sort, str) or sort not in ("in", "out"):
        return False
    return is_place(places, place) and is_number(hour)


def first_wrong_road(places, roads):
    """The index of the first thing that cannot stand there, 0 for no list, None for none."""
    if not is_list(roads):
        return 0
    onward = {}
    for index, thing in enumerate(roads):
        if not is_road(places, thing):
            return index
        begin, end, length, _ = thing
        if length == 0:
            if comes_to(onward, end, begin):
                return index
            # Alike roads are kept once, so that many of them cost no more than one.
            onward.setdefault(begin, {})[end] = True
    return None


def comes_to(onward, begin, end):
    """Whether one comes from begin to end; onward has, by places, where one comes from each at once."""
    seen = {begin: True}
    waiting = [begin]
    while waiting:
        here = waiting.pop()
        for place in onward.get(here, {}):
            if place == end:
                return True
            if place not in seen:
                seen[place] = True
                waiting.append(place)
    return False


def first_wrong_door(places, doors):
    """The index of the first thing that cannot stand there, 0 for no list, None for none."""
    if not is_list(doors):
        return 0
    sorts = {}
    for index, thing in enumerate(doors):
        if not is_door(places, thing):
            return index
        sort, place, _ = thing
        if sorts.setdefault(place, sort) != sort:
            return index
    return None
