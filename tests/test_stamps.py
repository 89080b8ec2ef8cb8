"""Points 9, 10 and 11: mixes, stamps of numbers, and levels. The answers wanted are
reckoned here anew."""

import random
import unittest

from meterhouse.papers import risen
from meterhouse.stamps import MIX, Stamps, levels, mix, stamp

PRIME = 2305843009213693951
WIDE = 2 ** 64
COUNTS = (1, 2, 4, 8, 16, 32, 64)


def mixed(one, other):
    whole = 998244353 * one + 1000000007 * other + 97
    return whole - whole // PRIME * PRIME


def stamped(numbers):
    now = 1
    for k in range(len(numbers)):
        now = mixed(now, numbers[k])
    return mixed(now, len(numbers))


# The stamp over a part of the leaves, by halves from above, where the program goes from below.
def top_over(leaves):
    if len(leaves) == 1:
        return leaves[0]
    half = len(leaves) // 2
    return mixed(top_over(leaves[:half]), top_over(leaves[half:]))


def way_within(leaves, place):
    if len(leaves) == 1:
        return []
    half = len(leaves) // 2
    if place < half:
        return way_within(leaves[:half], place) + [top_over(leaves[half:])]
    return way_within(leaves[half:], place - half) + [top_over(leaves[:half])]


def drawn_leaves(draw, count):
    return [draw.randrange(PRIME) for turn in range(count)]


class Mixes(unittest.TestCase):
    def test_mix_number(self):
        self.assertEqual(MIX, 2305843009213693951)
        self.assertIs(type(MIX), int)

    def test_small_mixes_by_hand(self):
        self.assertEqual(mix(0, 0), 97)
        self.assertEqual(mix(1, 0), 998244450)
        self.assertEqual(mix(0, 1), 1000000104)
        self.assertEqual(mix(1, 1), 1998244457)
        self.assertEqual(mix(2, 3), 2 * 998244353 + 3 * 1000000007 + 97)

    def test_mixes_of_edges_and_very_great_numbers(self):
        edges = (0, 1, 2, 96, 97, 2309898378, PRIME - 1, PRIME, PRIME + 1, 2 ** 63, WIDE - 1, WIDE, WIDE + 1, 10 ** 399)
        for one in edges:
            for other in edges:
                with self.subTest(one=one, other=other):
                    self.assertEqual(mix(one, other), mixed(one, other))
                    self.assertTrue(0 <= mix(one, other) < PRIME)

    def test_drawn_mixes(self):
        draw = random.Random(9)
        for turn in range(2000):
            one, other = draw.getrandbits(64), draw.getrandbits(64)
            self.assertEqual(mix(one, other), mixed(one, other))


class StampsOfNumbers(unittest.TestCase):
    def test_no_numbers(self):
        self.assertEqual(stamp([]), 998244353 + 97)

    def test_one_number(self):
        for number in (0, 1, 2, 97, PRIME - 1, PRIME, WIDE - 1):
            with self.subTest(number=number):
                self.assertEqual(stamp([number]), mixed(mixed(1, number), 1))

    def test_two_numbers_in_their_order(self):
        self.assertEqual(stamp([5, 6]), mixed(mixed(mixed(1, 5), 6), 2))
        self.assertEqual(stamp([6, 5]), mixed(mixed(mixed(1, 6), 5), 2))
        self.assertNotEqual(stamp([5, 6]), stamp([6, 5]))

    def test_noughts_are_counted(self):
        told = [stamp([0] * many) for many in range(50)]
        self.assertEqual(len(set(told)), 50)
        self.assertEqual(told, [stamped([0] * many) for many in range(50)])

    def test_many_numbers(self):
        draw = random.Random(10)
        for many in list(range(30)) + [100, 500, 2000]:
            numbers = [draw.getrandbits(64) for turn in range(many)]
            before = list(numbers)
            self.assertEqual(stamp(numbers), stamped(numbers))
            self.assertEqual(numbers, before)

    def test_nothing_is_refused_somewhat_beyond_the_bounds(self):
        self.assertEqual(stamp([WIDE, WIDE + 5]), stamped([WIDE, WIDE + 5]))


class Levels(unittest.TestCase):
    def test_small_levels_by_hand(self):
        self.assertEqual(levels([7]), [[7]])
        self.assertEqual(levels([7, 8]), [[7, 8], [mixed(7, 8)]])
        self.assertEqual(levels([1, 2, 3, 4]), [
            [1, 2, 3, 4], [mixed(1, 2), mixed(3, 4)], [mixed(mixed(1, 2), mixed(3, 4))],
        ])

    def test_each_count(self):
        draw = random.Random(11)
        for many in COUNTS:
            leaves = drawn_leaves(draw, many)
            before = list(leaves)
            told = levels(leaves)
            with self.subTest(many=many):
                self.assertEqual(leaves, before)
                self.assertEqual([len(level) for level in told], [many >> k for k in range(many.bit_length())])
                self.assertEqual(told[0], leaves)
                for ahead, level in zip(told, told[1:]):
                    self.assertEqual(level, [mixed(ahead[2 * k], ahead[2 * k + 1]) for k in range(len(level))])
                self.assertEqual(told[-1], [top_over(leaves)])
                self.assertTrue(all(type(level) is list for level in told))

    def test_the_levels_told_are_the_askers_own(self):
        leaves = [1, 2, 3, 4]
        told = levels(leaves)
        leaves[0] = 99
        self.assertEqual(told[0], [1, 2, 3, 4])
        told[0][1] = 98
        told[1][0] = 97
        self.assertEqual(leaves, [99, 2, 3, 4])
        self.assertEqual(levels([1, 2, 3, 4])[1], [mixed(1, 2), mixed(3, 4)])


class StampsKept(unittest.TestCase):
    def check(self, stamps, leaves):
        self.assertEqual(stamps.top(), top_over(leaves))
        for place in range(len(leaves)):
            way = stamps.way(place)
            self.assertIs(type(way), list)
            self.assertEqual(way, way_within(leaves, place))
            self.assertEqual(risen(place, leaves[place], way), top_over(leaves))

    def test_ways_by_hand(self):
        stamps = Stamps([1, 2, 3, 4])
        self.assertEqual(stamps.way(0), [2, mixed(3, 4)])
        self.assertEqual(stamps.way(1), [1, mixed(3, 4)])
        self.assertEqual(stamps.way(2), [4, mixed(1, 2)])
        self.assertEqual(stamps.way(3), [3, mixed(1, 2)])
        self.assertEqual(Stamps([5]).way(0), [])
        self.assertEqual(Stamps([5]).top(), 5)

    def test_each_count_and_each_leaf(self):
        draw = random.Random(12)
        for many in COUNTS:
            leaves = drawn_leaves(draw, many)
            with self.subTest(many=many):
                self.check(Stamps(leaves), leaves)

    def test_behind_each_of_many_puts(self):
        draw = random.Random(13)
        for many in COUNTS:
            leaves = drawn_leaves(draw, many)
            stamps = Stamps(leaves)
            places = list(range(many)) + [draw.randrange(many) for turn in range(40)]
            for place in places:
                leaf = draw.choice((0, 1, PRIME - 1, draw.randrange(PRIME)))
                stamps.put(place, leaf)
                leaves = leaves[:place] + [leaf] + leaves[place + 1:]
                self.check(stamps, leaves)
                self.assertEqual(stamps.top(), levels(leaves)[-1][0])

    def test_a_put_back_leaf_gives_the_first_top(self):
        stamps = Stamps(list(range(16)))
        first = stamps.top()
        stamps.put(9, 1000)
        self.assertNotEqual(stamps.top(), first)
        stamps.put(9, 9)
        self.assertEqual(stamps.top(), first)

    def test_two_objects_of_one_list_keep_apart(self):
        leaves = list(range(8))
        one, other = Stamps(leaves), Stamps(leaves)
        one.put(3, 77)
        self.assertEqual(leaves, list(range(8)))
        self.check(one, [0, 1, 2, 77, 4, 5, 6, 7])
        self.check(other, list(range(8)))
        leaves[5] = 99
        leaves.append(4)
        self.check(one, [0, 1, 2, 77, 4, 5, 6, 7])
        self.check(other, list(range(8)))

    def test_a_way_told_is_the_askers_own(self):
        stamps = Stamps(list(range(8)))
        told = stamps.way(2)
        kept = list(told)
        stamps.put(3, 55)
        stamps.put(7, 56)
        self.assertEqual(told, kept)
        told[0] = 1234
        told.clear()
        self.check(stamps, [0, 1, 2, 55, 4, 5, 6, 56])

    def test_put_gives_nothing_back(self):
        self.assertIsNone(Stamps([1, 2]).put(0, 3))


if __name__ == "__main__":
    unittest.main()
