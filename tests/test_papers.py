"""Points 11, 12, 13 and 3 (f): rising, papers that hold, and the clash of two papers."""

import random
import unittest

from meterhouse import errors
from meterhouse.errors import HouseError, NoClash
from meterhouse.papers import clash, holds, risen
from meterhouse.stamps import Stamps, mix, stamp

PRIME = 2305843009213693951
WIDE = 2 ** 64
FIRST = 998244353
SECOND = 1000000007
SECOND_TURNED = pow(SECOND, -1, PRIME)

OTHER_REFUSALS = (
    "NoCode", "NoSlot", "Taken", "NoNumber", "TooMuch", "NoAccount", "NoLimit", "PoorPurse", "PoorCoin", "NoPaper",
    "NoRow",
)


def mixed(one, other):
    return (FIRST * one + SECOND * other + 97) % PRIME


# The second of a pair that begins with one and has this mix.
def second_for(one, wanted):
    return (wanted - 97 - FIRST * one) * SECOND_TURNED % PRIME


def first_for(other, wanted):
    return (wanted - 97 - SECOND * other) * pow(FIRST, -1, PRIME) % PRIME


def gone(numbers):
    now = 1
    for number in numbers:
        now = mixed(now, number)
    return now


def sixteen_papers():
    draw = random.Random(12)
    lists = [[draw.getrandbits(64) for turn in range(draw.randint(0, 9))] for slot in range(16)]
    stamps = Stamps([stamp(numbers) for numbers in lists])
    return [(slot, lists[slot], stamps.way(slot)) for slot in range(16)], stamps.top()


def copied(paper):
    return (paper[0], list(paper[1]), list(paper[2]))


class Rising(unittest.TestCase):
    def test_by_hand(self):
        self.assertEqual(risen(0, 5, []), 5)
        self.assertEqual(risen(0, 5, [6]), mixed(5, 6))
        self.assertEqual(risen(1, 5, [6]), mixed(6, 5))
        self.assertEqual(risen(2, 5, [6, 7]), mixed(7, mixed(5, 6)))
        self.assertEqual(risen(1, 5, [6, 7]), mixed(mixed(6, 5), 7))
        self.assertEqual(risen(3, 5, [6, 7]), mixed(7, mixed(6, 5)))
        self.assertEqual(risen(4, 5, [6, 7, 8]), mixed(8, mixed(mixed(5, 6), 7)))

    def test_at_every_place_of_a_long_way(self):
        way = [k * k + 3 for k in range(60)]
        for place in (0, 1, 2, 2 ** 59, 2 ** 60 - 1, 0x5555555555555555 >> 4):
            now, left = 17, place
            for thing in way:
                now = mixed(now, thing) if left % 2 == 0 else mixed(thing, now)
                left //= 2
            self.assertEqual(risen(place, 17, way), now)

    def test_the_way_is_not_changed(self):
        way = [1, 2, 3]
        risen(5, 9, way)
        self.assertEqual(way, [1, 2, 3])

    def test_nothing_is_refused_somewhat_beyond_the_bounds(self):
        self.assertEqual(risen(2, 5, [6]), mixed(5, 6))
        self.assertEqual(risen(0, WIDE, [WIDE]), mixed(WIDE, WIDE))
        self.assertIs(type(risen(0, 1, list(range(61)))), int)


class Holding(unittest.TestCase):
    def test_papers_that_hold(self):
        papers, top = sixteen_papers()
        for paper in papers:
            before = copied(paper)
            self.assertIs(holds(paper, top), True)
            self.assertEqual(paper, before)

    def test_without_a_way(self):
        self.assertIs(holds((0, [], []), stamp([])), True)
        self.assertIs(holds((0, [4, 5], []), stamp([4, 5])), True)
        self.assertIs(holds((1, [4, 5], []), stamp([4, 5])), False)
        self.assertIs(holds((-1, [4, 5], []), stamp([4, 5])), False)

    def test_at_a_way_of_sixty(self):
        way = list(range(60))
        for place in (0, 1, 2 ** 59, 2 ** 60 - 1):
            self.assertIs(holds((place, [1], way), risen(place, stamp([1]), way)), True)
        for place in (2 ** 60, 2 ** 60 + 1, 2 ** 64, 10 ** 399):
            self.assertIs(holds((place, [1], way), risen(place, stamp([1]), way)), False)

    def test_nothing_is_refused_somewhat_beyond_the_bounds(self):
        way = list(range(61))
        self.assertIs(holds((2 ** 61 - 1, [WIDE], way), risen(2 ** 61 - 1, stamp([WIDE]), way)), True)
        self.assertIs(holds((2 ** 61, [WIDE], way), risen(2 ** 61, stamp([WIDE]), way)), False)

    def test_a_place_changed_by_one(self):
        papers, top = sixteen_papers()
        for place, numbers, way in papers:
            self.assertIs(holds((place + 1, numbers, way), top), False)
            self.assertIs(holds((place - 1, numbers, way), top), False)

    # Rising alone would not see these: the low binary figures of the place are the same.
    def test_a_place_too_great_or_below_nought(self):
        papers, top = sixteen_papers()
        for place, numbers, way in papers:
            for other in (place + 16, place + 32, place + 16 * 1000, place + WIDE, place - 16, place - 32, place - 2 ** 70):
                self.assertEqual(risen(other, stamp(numbers), way), top)
                self.assertIs(holds((other, numbers, way), top), False)

    def test_a_number_changed_added_or_lacking(self):
        papers, top = sixteen_papers()
        for place, numbers, way in papers:
            for k in range(len(numbers)):
                changed = list(numbers)
                changed[k] ^= 1
                self.assertIs(holds((place, changed, way), top), False)
                self.assertIs(holds((place, numbers[:k] + numbers[k + 1:], way), top), False)
            self.assertIs(holds((place, numbers + [0], way), top), False)
            self.assertIs(holds((place, [0] + numbers, way), top), False)

    def test_a_thing_of_the_way_changed_added_or_lacking(self):
        papers, top = sixteen_papers()
        for place, numbers, way in papers:
            for k in range(len(way)):
                changed = list(way)
                changed[k] += 1
                self.assertIs(holds((place, numbers, changed), top), False)
            self.assertIs(holds((place, numbers, way[:-1]), top), False)
            self.assertIs(holds((place, numbers, way + [0]), top), False)
            self.assertIs(holds((place, numbers, []), top), False)

    def test_another_top(self):
        papers, top = sixteen_papers()
        for paper in papers:
            for other in (top + 1, top - 1, 0, top + PRIME, stamp(paper[1])):
                self.assertIs(holds(paper, other), False)


class Clashes(unittest.TestCase):
    def check(self, one, other, wanted):
        before = (copied(one), copied(other))
        top = risen(one[0], stamp(one[1]), one[2])
        self.assertTrue(holds(one, top) and holds(other, top))
        told = clash(one, other)
        self.assertEqual(told, wanted)
        self.assertEqual(clash(other, one), (wanted[1], wanted[0]))
        self.assertEqual([type(told)] + [type(pair) for pair in told], [tuple] * 3)
        self.assertEqual([len(told)] + [len(pair) for pair in told], [2] * 3)
        self.assertNotEqual(told[0], told[1])
        self.assertEqual(mix(*told[0]), mix(*told[1]))
        self.assertEqual((one, other), before)

    # Numbers of another stamp, and a thing of the way at step k that makes up for it.
    def clash_in_the_way(self, place, k, long):
        one = (place, [3, 4], list(range(100, 100 + long)))
        other = (place, [5], list(range(100, 100 + long)))
        leaf, beside = stamp([3, 4]), stamp([5])
        ahead = risen(place, leaf, one[2][:k])
        instead = risen(place, beside, other[2][:k])
        if (place >> k) % 2 == 0:
            first = (ahead, one[2][k])
            second = (instead, second_for(instead, mixed(*first)))
            other[2][k] = second[1]
        else:
            first = (one[2][k], ahead)
            second = (first_for(instead, mixed(*first)), instead)
            other[2][k] = second[0]
        return one, other, (first, second)

    def test_clashes_in_the_way_at_each_step(self):
        for long in (1, 2, 4, 6):
            for place in range(min(2 ** long, 20)):
                for k in range(long):
                    with self.subTest(long=long, place=place, k=k):
                        self.check(*self.clash_in_the_way(place, k, long))

    def test_the_first_unlike_pair_from_the_top_is_told(self):
        one = (0, [7], [1, 2])
        leaf = stamp([8])
        low = mixed(leaf, 55)
        goal = risen(0, stamp([7]), [1, 2])
        other = (0, [8], [55, second_for(low, goal)])
        self.check(one, other, ((mixed(stamp([7]), 1), 2), (low, other[2][1])))

    def test_clash_in_the_last_mix(self):
        for many, more in ((1, 2), (2, 1), (3, 7), (0, 1), (0, 5), (1, 30)):
            one = list(range(10, 10 + many))
            start = list(range(50, 50 + more - 1))
            wanted = first_for(more, stamp(one))
            other = start + [second_for(gone(start), wanted)]
            with self.subTest(many=many, more=more):
                for place, way in ((0, []), (5, [9, 8, 7])):
                    self.check((place, one, way), (place, other, way), ((gone(one), many), (wanted, more)))

    def test_clash_in_the_numbers(self):
        ways = ((0, []), (1, [4]), (9, [3, 2, 1, 0]))
        for behind in ([], [6], [6, 0, WIDE - 1]):
            one = [1, 2, 3, 4]
            start = [1, 2, 8]
            last = second_for(gone(start), gone(one))
            other = start + [last]
            wanted = ((gone([1, 2, 3]), 4), (gone(start), last))
            for place, way in ways:
                with self.subTest(behind=behind, way=way):
                    self.check((place, one + behind, way), (place, other + behind, way), wanted)

    # A number and the same with MIX more go on alike, though they are unlike.
    def test_clash_at_the_first_and_at_the_last_number(self):
        for behind in ([], [5], [5, 6, 7]):
            one, other = [3] + behind, [3 + PRIME] + behind
            self.check((0, one, []), (0, other, []), ((1, 3), (1, 3 + PRIME)))
            one, other = behind + [3], behind + [3 + PRIME]
            self.check((2, one, [1, 1]), (2, other, [1, 1]), ((gone(behind), 3), (gone(behind), 3 + PRIME)))

    def test_of_several_unlike_numbers_the_last_is_told(self):
        one, other = [3, 4, 5, 6], [3 + PRIME, 4, 5 + PRIME, 6]
        wanted = ((gone([3, 4]), 5), (gone([3, 4]), 5 + PRIME))
        self.check((0, one, []), (0, other, []), wanted)

    def test_a_way_changed_by_mix_goes_first(self):
        one, other = (2, [3], [1, 2]), (2, [3 + PRIME], [1, 2 + PRIME])
        high = risen(0, stamp([3]), [1])
        self.check(one, other, ((2, high), (2 + PRIME, high)))

    def test_at_a_way_of_sixty(self):
        place = 2 ** 60 - 1
        way = list(range(60))
        self.check((place, [3], way), (place, [3 + PRIME], way), ((1, 3), (1, 3 + PRIME)))


class NoClashes(unittest.TestCase):
    def check(self, one, other):
        before = (copied(one), copied(other))
        for first, second in ((one, other), (other, one)):
            with self.assertRaises(NoClash):
                clash(first, second)
        self.assertEqual((one, other), before)

    def test_places_unlike(self):
        leaf, twin = [3], [3 + PRIME]
        self.check((0, leaf, [5]), (1, twin, [5]))
        alike = stamp(leaf)
        self.check((0, leaf, [alike]), (1, twin, [alike]))
        self.check((0, leaf, [5]), (2, twin, [5]))

    def test_ways_not_alike_long(self):
        self.check((0, [3], [5]), (0, [3 + PRIME], [5, 6]))
        short = stamp([3])
        long = (0, [4], [second_for(stamp([4]), short)])
        self.assertTrue(holds(long, short) and holds((0, [3], []), short))
        self.check((0, [3], []), long)

    def test_numbers_alike(self):
        self.check((1, [3, 4], [5]), (1, [3, 4], [5]))
        self.check((1, [3, 4], [5]), (1, [3, 4], [5 + PRIME]))
        self.check((0, [], []), (0, [], []))
        paper = (1, [3, 4], [5])
        self.check(paper, paper)

    def test_a_place_that_does_not_hold(self):
        for place, way in ((-1, [5]), (-2, [5]), (2, [5]), (3, [5]), (1, []), (-1, []), (16, [1, 2, 3, 4]), (10 ** 399, [1])):
            with self.subTest(place=place, way=way):
                self.check((place, [3], way), (place, [3 + PRIME], way))

    def test_two_unlike_stamps(self):
        self.check((0, [3], [5]), (0, [4], [5]))
        self.check((0, [3], []), (0, [3, 0], []))
        self.check((0, [3], [5]), (0, [3 + PRIME], [6]))
        self.check((1, [3, 4], [5, 6]), (1, [3 + PRIME, 4], [5, 7]))

    def test_no_clash_is_taken_as_told_and_is_none_of_the_others(self):
        for kind in (NoClash, HouseError, ValueError):
            with self.assertRaises(kind):
                clash((0, [1], []), (0, [1], []))
        try:
            clash((0, [1], []), (0, [2], []))
        except HouseError as error:
            for name in OTHER_REFUSALS:
                self.assertNotIsInstance(error, getattr(errors, name))


if __name__ == "__main__":
    unittest.main()
