import random
import unittest

from lastbell import desk as desk_file
from lastbell.desk import Desk
from lastbell.errors import BadBell, BadDoor, BadHouse, BadLoads, Lacks, NotBooked
from lastbell.further import further
from lastbell.houses import House
from lastbell.kept import is_plan_for, lot_for
from lastbell.rows import plan_for
from tests.counted import kept_laid_out
from tests.made import H_DOORS, H_ROADS, example
from tests.means import TOP, far_houses, limit_house, near_houses
from tests.test_further import bad_doors
from tests.things import a_function, deep, example_house, no_houses, no_numbers
from tests.wished import one_load_more, sorts_of


def no_loads():
    """Things that are no integer from 1 on."""
    return no_numbers() + [0]


class Noted:
    """A desk beside notes of what it should have: all wishes and bells that were, and where it stands among them."""

    def __init__(self, house, bell):
        self.desk = Desk(house, bell)
        self.house = house
        self.was = [(bell, [0 for _ in house.doors()])]
        self.at = 0

    def copy(self):
        other = Noted(self.house, 0)
        other.desk = self.desk.copy()
        other.was = list(self.was)
        other.at = self.at
        return other

    def bell(self):
        return self.was[self.at][0]

    def wishes(self):
        return self.was[self.at][1]

    def changed(self, door, other, loads):
        wishes = list(self.wishes())
        wishes[door] += loads
        wishes[other] += loads
        return wishes

    def done(self, bell, wishes):
        self.was = self.was[:self.at + 1] + [(bell, wishes)]
        self.at += 1

    def could(self, door, other, step):
        """How many could be booked, or taken away, by halving, with lot_for alone."""
        low, high = 0, 1
        while self.kept(self.changed(door, other, high * step)):
            high *= 2
        while high - low > 1:
            middle = (low + high) // 2
            if self.kept(self.changed(door, other, middle * step)):
                low = middle
            else:
                high = middle
        return low

    def kept(self, wishes):
        return min(wishes) >= 0 and lot_for(self.house, wishes, self.bell()) is None


class NotedCase(unittest.TestCase):

    def judge(self, noted):
        desk = noted.desk
        self.assertEqual(desk.wishes(), noted.wishes())
        self.assertEqual(desk.bell(), noted.bell())
        self.assertEqual(desk.house(), noted.house)

    def change(self, noted, door, other, loads, step):
        """Books, or takes away: done, or refused with its lot and what is left."""
        wishes = noted.changed(door, other, loads * step)
        deed = noted.desk.book if step > 0 else noted.desk.cancel
        if min(wishes) < 0:
            with self.assertRaises(NotBooked) as caught:
                deed(door, other, loads)
            self.assertEqual(caught.exception.loads, loads)
            return "not booked"
        lacks = lot_for(noted.house, wishes, noted.bell())
        if lacks is not None:
            left = noted.could(door, other, step)
            with self.assertRaises(Lacks) as caught:
                deed(door, other, loads)
            self.assertEqual((caught.exception.lot, caught.exception.left), (lacks[0], left))
            self.assertEqual((type(caught.exception.lot), type(caught.exception.left)), (list, int))
            return "lacks"
        self.assertIsNone(deed(door, other, loads))
        noted.done(noted.bell(), wishes)
        return "done"

    def ring(self, noted, bell):
        lacks = lot_for(noted.house, noted.wishes(), bell)
        if lacks is not None:
            with self.assertRaises(Lacks) as caught:
                noted.desk.ring(bell)
            self.assertEqual((caught.exception.lot, caught.exception.left), (lacks[0], 0))
            return "ring lacks"
        self.assertIsNone(noted.desk.ring(bell))
        noted.done(bell, noted.wishes())
        return "rung"

    def undo(self, noted):
        there = noted.at > 0
        self.assertIs(noted.desk.undo(), there)
        noted.at -= there
        return "undone" if there else "nothing to undo"

    def again(self, noted):
        there = noted.at + 1 < len(noted.was)
        self.assertIs(noted.desk.again(), there)
        noted.at += there
        return "again" if there else "nothing again"

    def deed(self, noted, chance, bells):
        """One deed by chance, mostly near to what can just be done."""
        ins = [door for door, sort in enumerate(sorts_of(noted.house)) if sort == "in"]
        outs = [door for door, sort in enumerate(sorts_of(noted.house)) if sort == "out"]
        kind = chance.choice(("book", "book", "book", "cancel", "cancel", "ring", "undo", "undo", "again"))
        if kind == "undo":
            return self.undo(noted)
        if kind == "again":
            return self.again(noted)
        if kind == "ring":
            return self.ring(noted, chance.choice((*bells, noted.bell())))
        step = 1 if kind == "book" else -1
        door, other = chance.choice(ins), chance.choice(outs)
        could = noted.could(door, other, step)
        loads = chance.choice((could, could + 1, could // 2, 1, could + 9))
        return self.change(noted, door, other, max(1, loads), step)


class ExampleTest(unittest.TestCase):

    def test_all_of_it(self):
        desk = Desk(example(), 7)
        self.assertIsNone(desk.book(0, 2, 10))
        self.assertIsNone(desk.book(1, 3, 5))
        self.assertEqual(desk.left(0, 2), 0)
        with self.assertRaises(Lacks) as caught:
            desk.book(0, 2, 1)
        self.assertEqual((caught.exception.lot, caught.exception.left), ([0, 1], 0))
        with self.assertRaises(Lacks) as caught:
            desk.cancel(1, 2, 5)
        self.assertEqual((caught.exception.lot, caught.exception.left), ([0, 2], 4))
        self.assertEqual(desk.wishes(), [10, 5, 10, 5])


class DeedsTest(NotedCase):

    def test_sixty_deeds(self):
        told = {}
        for number, house in enumerate(near_houses()[::3]):
            noted = Noted(house, 8)
            chance = random.Random(number)
            for _ in range(60):
                word = self.deed(noted, chance, (5, 8, 11))
                told[word] = told.get(word, 0) + 1
                self.judge(noted)
            self.assertEqual(noted.desk.plan(), plan_for(house, noted.wishes(), noted.bell()))
            self.assertTrue(kept_laid_out(house, noted.wishes(), noted.bell()))
        self.assertTrue(len(told) == 9 and min(told.values()) > 20, told)

    def test_far(self):
        told = {}
        for number, house in enumerate([limit_house(seed) for seed in range(3)] + far_houses()[::30]):
            noted = Noted(house, 10 ** 12)
            chance = random.Random(number)
            for _ in range(20):
                word = self.deed(noted, chance, (3 * TOP, 10 ** 11, 10 ** 12))
                told[word] = told.get(word, 0) + 1
                self.judge(noted)
            self.assertTrue(is_plan_for(house, noted.wishes(), noted.bell(), noted.desk.plan()))
        self.assertTrue(told["done"] > 10 and told["lacks"] > 5, told)

    def test_copies_go_on_by_themselves(self):
        for number, house in enumerate(near_houses()[::5]):
            chance = random.Random(number)
            all_noted = [Noted(house, 9)]
            for at in range(60):
                if at % 12 == 5:
                    noted = chance.choice(all_noted)
                    all_noted.append(noted.copy())
                    self.assertIs(type(all_noted[-1].desk), Desk)
                    self.assertIsNot(all_noted[-1].desk, noted.desk)
                    self.assertEqual(all_noted[-1].desk, noted.desk)
                self.deed(chance.choice(all_noted), chance, (6, 9))
                for noted in all_noted:
                    self.judge(noted)
            for noted in all_noted:
                # All that was done and taken back is there still, in each of them.
                while self.again(noted) == "again":
                    self.judge(noted)
                while self.undo(noted) == "undone":
                    self.judge(noted)
                self.assertEqual(noted.desk, Desk(house, 9))

    def test_left(self):
        for number, house in enumerate(near_houses()[::3]):
            noted = Noted(house, 9)
            chance = random.Random(number)
            for _ in range(8):
                self.deed(noted, chance, (9, 12))
            for door, other, _ in one_load_more(house, noted.wishes()):
                left = noted.desk.left(door, other)
                self.assertIs(type(left), int)
                self.assertEqual(left, noted.could(door, other, 1))
                self.assertEqual(left, further(house, noted.wishes(), noted.bell(), door, other))

    def test_one_load_each(self):
        """From what is booked to any kept wishes nowhere smaller, and back, by loads alone, in some order."""
        for number, house in enumerate(near_houses()[::4]):
            noted = Noted(house, 7)
            chance = random.Random(number)
            for _ in range(12):
                self.deed(noted, chance, (7,))
            aim = noted.wishes()
            desk = Desk(house, 7)
            for reach, deed, step in ((aim, desk.book, 1), ([0 for _ in aim], desk.cancel, -1)):
                while desk.wishes() != reach:
                    before = desk.wishes()
                    for door, other, _ in one_load_more(house, aim):
                        now = desk.wishes()
                        if now == before and now[door] != reach[door] and now[other] != reach[other]:
                            try:
                                deed(door, other, 1)
                            except Lacks:
                                pass
                    self.assertNotEqual(desk.wishes(), before)
                    self.assertEqual(sum(desk.wishes()), sum(before) + 2 * step)

    def test_the_same_bell_is_a_deed(self):
        desk = Desk(example(), 7)
        desk.ring(7)
        self.assertTrue(desk.undo())
        self.assertFalse(desk.undo())
        self.assertTrue(desk.again())
        self.assertFalse(desk.again())
        desk.book(0, 2, 1)
        desk.undo()
        desk.ring(7)
        self.assertFalse(desk.again(), "a new deed ends what can be done again")
        self.assertEqual(desk.wishes(), [0, 0, 0, 0])

    def test_undo_and_again_over_all_three_kinds(self):
        desk = Desk(example(), 7)
        desk.book(0, 2, 10)
        desk.ring(9)
        desk.cancel(0, 2, 4)
        states = [(9, [6, 0, 6, 0]), (9, [10, 0, 10, 0]), (7, [10, 0, 10, 0]), (7, [0, 0, 0, 0])]
        for _ in range(3):
            for state in states[1:]:
                self.assertIs(desk.undo(), True)
                self.assertEqual((desk.bell(), desk.wishes()), state)
            self.assertIs(desk.undo(), False)
            self.assertEqual((desk.bell(), desk.wishes()), states[3])
            for state in states[2::-1]:
                self.assertIs(desk.again(), True)
                self.assertEqual((desk.bell(), desk.wishes()), state)
            self.assertIs(desk.again(), False)
            self.assertEqual((desk.bell(), desk.wishes()), states[0])

    def test_what_is_refused_changes_nothing(self):
        desk = Desk(example(), 7)
        desk.book(0, 2, 10)
        desk.book(1, 3, 5)
        desk.ring(8)
        desk.ring(7)
        desk.undo()
        desk.undo()
        for deed, passed, error in ((desk.book, (0, 2, 1), Lacks), (desk.cancel, (1, 2, 5), Lacks), (desk.ring, (3,), Lacks),
                                    (desk.cancel, (0, 2, 11), NotBooked), (desk.book, (0, 2, 0), BadLoads),
                                    (desk.book, (2, 0, 1), BadDoor), (desk.ring, (None,), BadBell), (desk.left, (0, 1), BadDoor)):
            with self.assertRaises(error):
                deed(*passed)
            self.assertEqual((desk.bell(), desk.wishes()), (7, [10, 5, 10, 5]))
        self.assertIs(desk.again(), True)
        self.assertEqual(desk.bell(), 8)
        self.assertIs(desk.again(), True)
        self.assertEqual(desk.bell(), 7)
        self.assertIs(desk.again(), False)
        for _ in range(4):
            self.assertIs(desk.undo(), True)
        self.assertIs(desk.undo(), False)
        self.assertEqual((desk.bell(), desk.wishes()), (7, [0, 0, 0, 0]))
        with self.assertRaises(Lacks):
            desk.book(0, 2, 13)
        self.assertEqual([desk.again() for _ in range(5)], [True, True, True, True, False])

    def test_not_booked_comes_ahead(self):
        desk = Desk(example(), 7)
        desk.book(0, 2, 10)
        desk.book(1, 3, 5)
        for passed in ((1, 2, 6), (0, 3, 6), (0, 2, 11), (1, 3, 10 ** 20), (1, 2, 11)):
            with self.assertRaises(NotBooked) as caught:
                desk.cancel(*passed)
            self.assertIs(caught.exception.loads, passed[2])
        desk.cancel(1, 2, 4)
        self.assertEqual(desk.wishes(), [10, 1, 6, 5])

    def test_a_great_number(self):
        house = House(2, [(0, 1, 0, 10 ** 9)], [("in", 0, 0), ("out", 1, 0)])
        desk = Desk(house, 10 ** 12)
        let = 10 ** 9 * (10 ** 12 + 1)
        self.assertEqual(desk.left(0, 1), let)
        desk.book(0, 1, 10 ** 20)
        with self.assertRaises(Lacks) as caught:
            desk.book(0, 1, let - 10 ** 20 + 1)
        self.assertEqual((caught.exception.lot, caught.exception.left), ([0], let - 10 ** 20))
        desk.book(0, 1, let - 10 ** 20)
        with self.assertRaises(Lacks) as caught:
            desk.ring(10 ** 12 - 1)
        self.assertEqual((caught.exception.lot, caught.exception.left), ([0], 0))
        desk.ring(10 ** 12)
        desk.cancel(0, 1, 10 ** 9)
        desk.ring(10 ** 12 - 1)
        self.assertTrue(is_plan_for(house, [let - 10 ** 9] * 2, 10 ** 12 - 1, desk.plan()))


class EqualTest(unittest.TestCase):

    def test_by_other_deeds_to_the_same(self):
        one, other = Desk(example(), 7), Desk(example(), 9)
        self.assertNotEqual(one, other)
        one.book(0, 2, 6)
        one.book(1, 3, 4)
        other.book(0, 3, 4)
        other.book(1, 2, 4)
        other.book(0, 2, 9)
        other.cancel(0, 2, 7)
        self.assertNotEqual(one, other)
        other.ring(7)
        self.assertEqual(one.wishes(), [6, 4, 6, 4])
        self.assertEqual(one, other)
        self.assertFalse(one != other)
        self.assertEqual(one.plan(), other.plan())
        self.assertEqual(one.plan(), plan_for(example(), [6, 4, 6, 4], 7))
        one.undo()
        self.assertNotEqual(one, other)
        one.again()
        self.assertEqual(one, other)
        other.cancel(0, 2, 1)
        self.assertNotEqual(one, other)

    def test_houses_bells_and_wishes(self):
        self.assertEqual(Desk(example(), 7), Desk(House(5, tuple(H_ROADS), [list(door) for door in H_DOORS]), 7))
        for other in (Desk(example(), 8), Desk(House(6, H_ROADS, H_DOORS), 7), Desk(House(5, H_ROADS[:4], H_DOORS), 7)):
            self.assertNotEqual(Desk(example(), 7), other)

    def test_other_classes(self):
        desk = Desk(example(), 7)
        for thing in no_houses() + [example(), 7, 0, [0, 0, 0, 0], desk.plan(), a_function, None, "Desk", Desk, deep(45)]:
            self.assertFalse(desk == thing)
            self.assertTrue(desk != thing)
            self.assertFalse(thing == desk)

    def test_copies(self):
        desk = Desk(example(), 7)
        self.assertEqual(desk.copy(), desk)
        desk.book(0, 2, 5)
        other = desk.copy()
        self.assertIs(type(other), Desk)
        other.undo()
        self.assertEqual((desk.wishes(), other.wishes()), ([5, 0, 5, 0], [0, 0, 0, 0]))
        self.assertIs(other.again(), True)
        self.assertEqual(desk, other)
        desk.undo()
        third = desk.copy()
        desk.book(1, 3, 1)
        self.assertIs(desk.again(), False)
        self.assertIs(third.again(), True)
        self.assertEqual(third.wishes(), [5, 0, 5, 0])


class KindsTest(unittest.TestCase):

    def test_kinds(self):
        desk = Desk(example(), 7)
        desk.book(0, 2, 3)
        for _ in range(2):
            self.assertIs(type(desk.wishes()), list)
            desk.wishes()[0] = 9
            desk.wishes().append(1)
            desk.plan()[0][0].append("more")
            desk.house().roads().clear()
            self.assertEqual(desk.wishes(), [3, 0, 3, 0])
            self.assertEqual(desk.house(), example())
            self.assertIs(type(desk.house()), House)
            self.assertEqual(desk.plan(), plan_for(example(), [3, 0, 3, 0], 7))
            self.assertIs(type(desk.bell()), int)

    def test_lists_of_the_house_that_change_later(self):
        roads, doors = [list(road) for road in H_ROADS], [list(door) for door in H_DOORS]
        desk = Desk(House(5, roads, doors), 7)
        desk.book(0, 2, 10)
        roads[0][3] = 1
        doors.clear()
        roads.pop()
        self.assertEqual(desk.left(1, 3), 5)
        desk.book(1, 3, 5)
        self.assertEqual(desk.house(), example())
        self.assertEqual(desk, desk.copy())
        self.assertTrue(is_plan_for(example(), [10, 5, 10, 5], 7, desk.plan()))

    def test_lacks_keeps_new_lists(self):
        desk = Desk(example(), 7)
        lots = []
        for _ in range(2):
            with self.assertRaises(Lacks) as caught:
                desk.book(0, 2, 100)
            lots.append(caught.exception.lot)
        lots[0].append("more")
        self.assertEqual(lots[1], lot_for(example(), [100, 0, 100, 0], 7)[0])

    def test_names(self):
        desk = Desk(bell=7, house=example())
        desk.book(loads=10, other=2, door=0)
        desk.cancel(loads=1, other=2, door=0)
        desk.ring(bell=8)
        self.assertEqual(desk.left(other=2, door=0), desk.left(0, 2))
        self.assertEqual((desk.wishes(), desk.bell()), ([9, 0, 9, 0], 8))

    def test_defined_in_the_class_itself(self):
        self.assertEqual(Desk.__module__, desk_file.__name__)
        for name in ("book", "cancel", "ring", "house", "bell", "wishes", "plan", "left", "undo", "again", "copy", "__eq__"):
            self.assertIn(name, vars(Desk))

    def test_no_desk(self):
        for thing in no_houses():
            for bell in (7, None, -1):
                for call in (lambda: Desk(thing, bell), lambda: Desk(bell=bell, house=thing)):
                    with self.assertRaises(BadHouse) as caught:
                        call()
                    self.assertIs(caught.exception.thing, thing)
        for thing in no_numbers():
            for call in (lambda: Desk(example(), thing), lambda: Desk(bell=thing, house=example())):
                with self.assertRaises(BadBell) as caught:
                    call()
                self.assertIs(caught.exception.bell, thing)

    def test_refused(self):
        desk = Desk(example(), 7)
        desk.book(0, 2, 3)
        deeds = (desk.book, desk.cancel, lambda door, other, loads: desk.left(door, other))
        for deed in deeds:
            for thing in bad_doors() + [2, 3]:
                for others in ((2, 1), (None, None), (0, 0)):
                    for call in (lambda: deed(thing, *others), lambda: deed(loads=others[1], other=others[0], door=thing)):
                        with self.assertRaises(BadDoor) as caught:
                            call()
                        self.assertIs(caught.exception.door, thing)
            for thing in bad_doors() + [0, 1]:
                for loads in (1, None, 0):
                    with self.assertRaises(BadDoor) as caught:
                        deed(0, thing, loads)
                    self.assertIs(caught.exception.door, thing)
        for deed in deeds[:2]:
            for thing in no_loads():
                with self.assertRaises(BadLoads) as caught:
                    deed(1, 3, thing)
                self.assertIs(caught.exception.loads, thing)
        for thing in no_numbers():
            with self.assertRaises(BadBell) as caught:
                desk.ring(thing)
            self.assertIs(caught.exception.bell, thing)
        self.assertEqual((desk.wishes(), desk.bell()), ([3, 0, 3, 0], 7))
        self.assertEqual([desk.again(), desk.undo(), desk.undo()], [False, True, False])

    def test_doors_of_one_sort_alone_and_none(self):
        for doors in ([], [("in", 0, 0), ("in", 1, 2)], [("out", 3, 0), ("out", 4, 9)]):
            desk = Desk(House(5, H_ROADS, doors), 7)
            self.assertEqual(desk.wishes(), [0 for _ in doors])
            self.assertEqual(desk.plan(), ([[] for _ in doors], [[] for _ in H_ROADS]))
            desk.ring(0)
            self.assertIs(desk.undo(), True)
            for deed in (lambda: desk.book(0, 1, 1), lambda: desk.left(0, 1), lambda: desk.cancel(0, 1, 1)):
                with self.assertRaises(BadDoor) as caught:
                    deed()
                self.assertEqual(caught.exception.door, 1 if doors and doors[0][0] == "in" else 0)

    def test_no_way(self):
        desk = Desk(House(2, [(1, 0, 1, 1)], [("in", 0, 0), ("out", 1, 0)]), 10 ** 12)
        self.assertEqual(desk.left(0, 1), 0)
        with self.assertRaises(Lacks) as caught:
            desk.book(0, 1, 1)
        self.assertEqual((caught.exception.lot, caught.exception.left), ([0], 0))
        with self.assertRaises(NotBooked):
            desk.cancel(0, 1, 1)


if __name__ == "__main__":
    unittest.main()
