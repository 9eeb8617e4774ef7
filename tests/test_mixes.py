import random
import unittest
from fractions import Fraction
from math import gcd

from lastbell import mixes
from lastbell.houses import House
from lastbell.kept import lot_for
from lastbell.mixes import is_mix_for, mix_for
from lastbell.orders import corner, order_of
from tests.counted import kept_laid_out, most_by_rings, most_laid_out
from tests.made import H_ROADS, all_lots, example
from tests.means import TOP, beside, far_houses, limit_house, made_order, mean_of_corners, near_houses
from tests.refusals import (a_bell, a_house, a_thing, bad_orders, judge_names, judge_refusals, judge_unchanged,
                            listed, some_wishes, tupled)
from tests.things import a_function, deep, example_house, no_lists, no_numbers
from tests.wished import kept_wishes, made_wishes, shut_houses

KEPT = [11, 4, 11, 4]
MIX = [([0, 1, 3, 2], (1, 2)), ([1, 0, 2, 3], (1, 2))]


def mosts_counted(house, bell, count):
    return {tuple(lot): count(house, lot, bell) for lot in all_lots(house)}


def mixed(house, mix, mosts):
    """The corners, each times its share, added up, and the shares; counted anew."""
    sums = [Fraction(0) for _ in house.doors()]
    shares = Fraction(0)
    for order, (top, bottom) in mix:
        shares += Fraction(top, bottom)
        for at, door in enumerate(order):
            change = mosts[tuple(sorted(order[:at + 1]))] - mosts[tuple(sorted(order[:at]))]
            sums[door] += abs(change) * Fraction(top, bottom)
    return sums, shares


def is_mix(house, wishes, mix, mosts):
    return mixed(house, mix, mosts) == (list(wishes), 1)


def drawn_mix(house, bell, chance, many):
    """Orders by chance with shares whose bottoms are what they were drawn with; wishes if those are whole."""
    shares = [chance.randint(1, 6) for _ in range(many)]
    total = sum(shares)
    mix = [(made_order(house, chance), Fraction(share, total)) for share in shares]
    mix = [(order, (share.numerator, share.denominator)) for order, share in mix]
    sums, _ = mixed(house, mix, mosts_counted(house, bell, most_laid_out))
    return mix, [int(one) for one in sums] if all(one.denominator == 1 for one in sums) else None


class MixCase(unittest.TestCase):

    def judge(self, house, wishes, bell, mosts):
        mix = mix_for(house, wishes, bell)
        name = (house.places(), house.roads(), house.doors(), wishes, bell, mix)
        if mix is None:
            return None
        self.assertIs(type(mix), list, name)
        self.assertTrue(1 <= len(mix) <= max(1, len(house.doors())), name)
        for pair in mix:
            self.assertEqual((type(pair), len(pair)), (tuple, 2), name)
            order, share = pair
            self.assertEqual((type(order), type(share), len(share)), (list, tuple, 2), name)
            self.assertEqual(sorted(order), list(range(len(house.doors()))), name)
            self.assertTrue(all(type(one) is int and one > 0 for one in share), name)
            self.assertEqual(gcd(*share), 1, name)
        self.assertTrue(is_mix(house, wishes, mix, mosts), name)
        self.assertIs(is_mix_for(house, wishes, bell, mix), True, name)
        return mix


class ExampleTest(MixCase):

    def test_all_numbers(self):
        self.assertIs(is_mix_for(example(), KEPT, 7, MIX), True)
        self.assertIsNotNone(self.judge(example(), KEPT, 7, mosts_counted(example(), 7, most_laid_out)))
        self.assertIsNone(mix_for(example(), [12, 4, 11, 5], 7))


class SmallTest(MixCase):

    def test_kept_or_not(self):
        told = {True: 0, False: 0}
        most_pairs = 0
        for number, house in enumerate(near_houses() + shut_houses()[::6]):
            for seed, bell in enumerate((5, 9)):
                mosts = mosts_counted(house, bell, most_laid_out)
                wishes = mean_of_corners(house, bell, number * 10 + seed, 4)
                for some in (wishes, beside(house, wishes, number), made_wishes(house, number + seed)):
                    kept = kept_laid_out(house, some, bell)
                    told[kept] += 1
                    mix = self.judge(house, some, bell, mosts)
                    self.assertEqual(mix is not None, kept)
                    self.assertEqual(lot_for(house, some, bell) is None, kept)
                    most_pairs = max(most_pairs, len(mix) if mix else 0)
                    if mix and order_of(house, some, bell) is not None:
                        self.assertEqual(len(mix), 1, "a corner is a mix alone")
        self.assertTrue(min(told.values()) > 60, told)
        self.assertEqual(most_pairs, 5)

    def test_means_of_corners_drawn(self):
        whole = 0
        for number, house in enumerate(near_houses()):
            chance = random.Random(number)
            mosts = mosts_counted(house, 8, most_laid_out)
            for many in (1, 2, 3, 4, 6):
                mix, wishes = drawn_mix(house, 8, chance, many)
                if wishes is not None:
                    whole += 1
                    self.assertIs(is_mix_for(house, wishes, 8, mix), True)
                    self.assertIsNotNone(self.judge(house, wishes, 8, mosts))
        self.assertGreater(whole, 100)

    def test_what_streams_bring(self):
        for seed in range(0, 60, 3):
            house, wishes, bell, _ = kept_wishes(seed)
            self.assertIsNotNone(self.judge(house, wishes, bell, mosts_counted(house, bell, most_laid_out)))

    def test_doors_of_one_sort_alone_and_none(self):
        for doors in ([], [("in", 0, 0), ("in", 1, 2), ("in", 0, 0)], [("out", 3, 0), ("out", 4, 9)], [("in", 2, 0)]):
            house = House(5, H_ROADS, doors)
            none = [0 for _ in doors]
            for bell in (0, 9):
                self.judge(house, none, bell, mosts_counted(house, bell, most_laid_out))
                self.assertEqual(len(mix_for(house, none, bell)), 1)
        self.assertEqual(mix_for(House(1, [], []), [], 0), [([], (1, 1))])
        self.assertIs(is_mix_for(House(1, [], []), [], 0, [([], (1, 3)), ([], (2, 3))]), True)
        self.assertIs(is_mix_for(House(1, [], []), [], 0, []), False)
        self.assertIs(is_mix_for(House(1, [], []), [], 0, [([], (1, 3)), ([], (1, 3))]), False)


class FarTest(MixCase):

    def test_far(self):
        told = {True: 0, False: 0}
        for number, house in enumerate(far_houses()[::2]):
            bell = (2 * TOP, 10 ** 12)[number % 2]
            mosts = mosts_counted(house, bell, most_by_rings)
            wishes = mean_of_corners(house, bell, number, 5)
            for some in (wishes, beside(house, wishes, number), beside(house, corner(house, [*range(len(wishes))], bell), 1)):
                kept = all(sum(some[door] * (1 if house.doors()[door][0] == "in" else -1) for door in lot) <= mosts[lot]
                           for lot in mosts)
                told[kept] += 1
                self.assertEqual(self.judge(house, some, bell, mosts) is not None, kept)
        self.assertTrue(min(told.values()) > 10, told)

    def test_at_the_limits(self):
        pairs = []
        for seed in range(15):
            house = limit_house(seed)
            mosts = mosts_counted(house, 10 ** 12, most_by_rings)
            wishes = mean_of_corners(house, 10 ** 12, seed, 12)
            if lot_for(house, wishes, 10 ** 12) is None:
                pairs.append(len(self.judge(house, wishes, 10 ** 12, mosts)))
        self.assertGreater(pairs.count(5), 3)


def bent_mixes(mix, chance):
    """The mix with one of its numbers otherwise, one order otherwise, one pair left out or twice."""
    found = []
    for at, (order, (top, bottom)) in enumerate(mix):
        for share in ((top + 1, bottom), (top, bottom + 1), (top - 1, bottom), (2 * top, 2 * bottom), (-top, bottom),
                      (top, -bottom), (top, 0), (0, 1), (top,), (top, bottom, 1), [top, bottom], top, (True, bottom)):
            found.append(mix[:at] + [(order, share)] + mix[at + 1:])
        other = list(order)
        one, another = chance.randrange(len(order)), chance.randrange(len(order))
        other[one], other[another] = other[another], other[one]
        found.append(mix[:at] + [(other, (top, bottom))] + mix[at + 1:])
        found.append(mix[:at] + mix[at + 1:])
        found.append(mix + [mix[at]])
        found.append(mix[:at] + [(order[:-1], (top, bottom))] + mix[at + 1:])
        found.append(mix[:at] + [(order + [0], (top, bottom))] + mix[at + 1:])
    return found


def is_share(thing):
    """A fraction above 0."""
    if not isinstance(thing, (list, tuple)) or len(thing) != 2 or not all(type(one) is int for one in thing):
        return False
    return min(thing) > 0 and gcd(*thing) == 1


class IsMixTest(unittest.TestCase):

    def test_any_object(self):
        pair = MIX[0]
        things = no_lists() + [[], (), [[]], [()], pair, [pair], (pair,), [pair, None], [None, pair], deep(45), "ab",
                               [deep(44)], [(deep(43), (1, 2)), MIX[1]], [(pair[0], deep(43)), MIX[1]], {0: pair},
                               [{0: 1}, MIX[1]], [pair[0], pair[0]], [(1, 2), (1, 2)], [a_function, example_house()],
                               [((1, 2), [0, 1, 3, 2]), MIX[1]], [(*pair, 1), MIX[1]], [(pair[0],), MIX[1]], [MIX], (MIX, MIX)]
        things += [[(thing, (1, 2)), MIX[1]] for thing in bad_orders()] + [[MIX[0], thing] for thing in no_lists()]
        for thing in no_numbers() + [0, "1/2"]:
            things += [[(pair[0], thing), MIX[1]], [(pair[0], (thing, 2)), MIX[1]], [MIX[0], (MIX[1][0], (1, thing))]]
        for thing in things:
            self.assertIs(is_mix_for(example(), KEPT, 7, thing), False, thing)

    def test_lists_and_tuples_mean_the_same(self):
        for mix in (MIX, listed(MIX), tupled(MIX), (MIX[0], listed(MIX[1])), MIX[::-1]):
            self.assertIs(is_mix_for(example(), KEPT, 7, mix), True)

    def test_shares_in_lowest_terms(self):
        for shares in (((2, 4), (1, 2)), ((1, 2), (3, 6)), ((2, 4), (2, 4))):
            mix = [(order, share) for (order, _), share in zip(MIX, shares)]
            self.assertIs(is_mix_for(example(), KEPT, 7, mix), False)

    def test_shares_of_nothing_and_below(self):
        (order, half), other = MIX
        for more in ([(order, (0, 1))], [(order, (1, 1)), (order, (-1, 1))], [(order, (-1, 2)), (other[0], (1, 2))]):
            self.assertIs(is_mix_for(example(), KEPT, 7, MIX + more), False)
            self.assertIs(is_mix_for(example(), KEPT, 7, more + MIX), False)
        self.assertIs(is_mix_for(example(), KEPT, 7, [(order, (3, 2)), (order, (-1, 1)), other]), False)
        self.assertIs(is_mix_for(example(), KEPT, 7, [(order, half), (order, (0, 1)), other]), False)

    def test_parted_in_two_and_orders_more_than_once(self):
        for number, house in enumerate(near_houses()[::2]):
            wishes = mean_of_corners(house, 9, number)
            mix = mix_for(house, wishes, 9)
            if mix is None:
                continue
            order, (top, bottom) = mix[0]
            half, third = Fraction(top, 2 * bottom), Fraction(top, 3 * bottom)
            rest = mix[1:]
            halves = [(order, (half.numerator, half.denominator))] * 2
            parts = [(list(order), (third.numerator, third.denominator)) for _ in range(3)]
            for told in (halves + rest, rest + halves, parts[:1] + rest + parts[1:], mix[::-1], tupled(parts + rest)):
                self.assertIs(is_mix_for(house, wishes, 9, told), True)
            for told in (halves[:1] + rest, parts[:2] + rest, mix + mix):
                self.assertIs(is_mix_for(house, wishes, 9, told), False)

    def test_a_hundred_pairs(self):
        mix = [(order, (1, 100)) for order, _ in MIX for _ in range(50)]
        self.assertIs(is_mix_for(example(), KEPT, 7, mix), True)
        self.assertIs(is_mix_for(example(), KEPT, 7, mix[1:]), False)
        self.assertIs(is_mix_for(example(), KEPT, 7, mix[1:] + [(MIX[1][0], (1, 100))]), False)

    def test_far_bottoms(self):
        """Shares that are together only nearly 1, and numbers that are only nearly the wishes."""
        far = 10 ** 40
        order, other = MIX[0][0], MIX[1][0]
        told = [(order, (far // 2 - 1, far)), (order, (1, far)), (other, (1, 2))]
        self.assertEqual(gcd(far // 2 - 1, far), 1)
        self.assertIs(is_mix_for(example(), KEPT, 7, told), True)
        self.assertIs(is_mix_for(example(), KEPT, 7, [(order, (far // 2 - 1, far)), *told[2:]]), False)
        nearly = [(order, (far // 2 - 1, far)), (other, (far // 2 + 1, far))]
        self.assertIs(is_mix_for(example(), KEPT, 7, nearly), False)

    def test_bent(self):
        told = {True: 0, False: 0}
        for number, house in enumerate(near_houses()[::3]):
            wishes = mean_of_corners(house, 7, number)
            mix = mix_for(house, wishes, 7)
            if mix is None:
                continue
            mosts = mosts_counted(house, 7, most_laid_out)
            for bent in bent_mixes(mix, random.Random(number)):
                right = all(is_share(share) and sorted(order) == list(range(len(wishes))) for order, share in bent)
                right = right and is_mix(house, wishes, bent, mosts)
                told[right] += 1
                self.assertIs(is_mix_for(house, wishes, 7, bent), right, (wishes, bent))
        self.assertTrue(min(told.values()) > 20, told)

    def test_changed_in_place(self):
        mix = listed(MIX)
        for _ in range(3):
            self.assertIs(is_mix_for(example(), KEPT, 7, mix), True)
            mix[0][1][0] = 3
            self.assertIs(is_mix_for(example(), KEPT, 7, mix), False)
            mix[0][1][0] = 1
            mix[1][0].append(4)
            self.assertIs(is_mix_for(example(), KEPT, 7, mix), False)
            mix[1][0].pop()
            mix.append(mix[0])
            self.assertIs(is_mix_for(example(), KEPT, 7, mix), False)
            mix.pop()

    def test_other_wishes_and_bells(self):
        for wishes, bell in (([11, 4, 10, 5], 7), (KEPT, 6), (KEPT, 8), ([0, 0, 0, 0], 7), ([12, 4, 11, 5], 7)):
            self.assertIs(is_mix_for(example(), wishes, bell, MIX), False)

    def test_wishes_that_are_not_kept_have_none(self):
        for number, house in enumerate(near_houses()[::2]):
            few = mean_of_corners(house, 6, number)
            mix = mix_for(house, few, 6)
            wishes = [one + sum(few) + 60 for one in few] if len(set(
                [sort for sort, _, _ in house.doors()].count(which) for which in ("in", "out"))) == 1 else None
            if mix is not None and wishes is not None:
                self.assertIs(is_mix_for(house, wishes, 6, mix), False)


class KindsTest(unittest.TestCase):

    def test_kinds_and_sameness(self):
        for number, house in enumerate(near_houses()[::6] + far_houses()[::9]):
            again = House(house.places(), tupled(house.roads()), listed(house.doors()))
            wishes = mean_of_corners(house, 10, number)
            judge_unchanged(self, mix_for, [house, wishes, 10])
            mix = mix_for(house, wishes, 10)
            judge_unchanged(self, is_mix_for, [house, wishes, 10, mix])
            self.assertEqual(mix_for(again, tuple(wishes), 10), mix)

    def test_refused(self):
        parameters = [a_house(), some_wishes(), a_bell()]
        judge_refusals(self, mix_for, parameters)
        judge_names(self, mix_for, parameters)
        judge_refusals(self, is_mix_for, [*parameters, a_thing()])
        judge_names(self, is_mix_for, [*parameters, a_thing()])

    def test_defined_in_their_file(self):
        for ask in (mix_for, is_mix_for):
            self.assertEqual(ask.__module__, mixes.__name__)


if __name__ == "__main__":
    unittest.main()
