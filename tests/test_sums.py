"""Point 5: the twelve words that reckon. The answers wanted are found here by counting
and by single binary figures, not by the ways that the program goes."""

import random
import unittest

from meterhouse.sums import reckon

WIDE = 2 ** 64
TOP = WIDE - 1
HALF = 2 ** 63

RECKONING = "add minus times over rest below same both either unlike up down".split()

EDGES = (
    0, 1, 2, 3, 5, 31, 32, 33, 62, 63, 64, 65, 66, 127, 128, 1000,
    2 ** 32 - 1, 2 ** 32, 2 ** 32 + 1, HALF - 1, HALF, HALF + 1, TOP - 63, TOP - 2, TOP - 1, TOP,
)

ALTERNATE = 0x5555555555555555


def drawn_pairs():
    draw = random.Random(5)
    sizes = (1, 4, 8, 31, 33, 60, 64)
    return [(draw.getrandbits(draw.choice(sizes)), draw.getrandbits(draw.choice(sizes))) for turn in range(3000)]


def edge_pairs():
    return [(one, other) for one in EDGES for other in EDGES]


def figures(number):
    return [int(sign) for sign in format(number, "064b")]


def by_figures(one, other, wanted):
    told = ["1" if a + b in wanted else "0" for a, b in zip(figures(one), figures(other))]
    return int("".join(told), 2)


def brought(number):
    while number < 0:
        number += WIDE
    return number - WIDE * (number // WIDE)


def raised(one, other):
    for step in range(min(other, 64)):
        one = brought(one + one)
    return one


def lowered(one, other):
    for step in range(min(other, 64)):
        one = one // 2
    return one


class EachWord(unittest.TestCase):
    def check(self, word, rows):
        for one, other, wanted in rows:
            with self.subTest(word=word, one=one, other=other):
                self.assertEqual(reckon(word, one, other), wanted)

    def test_add(self):
        self.check("add", [
            (0, 0, 0), (2, 3, 5), (0, TOP, TOP), (TOP, 0, TOP), (TOP, 1, 0), (1, TOP, 0), (TOP, TOP, TOP - 1),
            (HALF, HALF, 0), (HALF, HALF - 1, TOP), (TOP - 1, 1, TOP), (TOP, 2, 1),
        ])

    def test_minus(self):
        self.check("minus", [
            (0, 0, 0), (5, 3, 2), (3, 5, TOP - 1), (0, 1, TOP), (0, TOP, 1), (TOP, 0, TOP), (TOP, TOP, 0),
            (1, TOP, 2), (TOP, 1, TOP - 1), (HALF, HALF + 1, TOP), (7, 0, 7),
        ])

    def test_times(self):
        self.check("times", [
            (0, 0, 0), (6, 7, 42), (0, TOP, 0), (TOP, 0, 0), (1, TOP, TOP), (TOP, 1, TOP), (TOP, TOP, 1),
            (2, HALF, 0), (HALF, 2, 0), (HALF, 3, HALF), (2 ** 32, 2 ** 32, 0), (2 ** 32 - 1, 2 ** 32 + 1, TOP),
            (2, TOP, TOP - 1),
        ])

    def test_over(self):
        self.check("over", [
            (0, 0, 0), (1, 0, 0), (TOP, 0, 0), (0, 1, 0), (0, TOP, 0), (7, 2, 3), (6, 2, 3), (5, 2, 2), (2, 7, 0),
            (TOP, 1, TOP), (TOP, TOP, 1), (TOP - 1, TOP, 0), (TOP, TOP - 1, 1), (TOP, 2, HALF - 1),
            (TOP, 10, 1844674407370955161),
        ])

    def test_rest(self):
        self.check("rest", [
            (0, 0, 0), (1, 0, 0), (TOP, 0, 0), (0, 1, 0), (0, TOP, 0), (7, 2, 1), (6, 2, 0), (2, 7, 2),
            (TOP, 1, 0), (TOP, TOP, 0), (TOP - 1, TOP, TOP - 1), (TOP, TOP - 1, 1), (TOP, HALF, HALF - 1),
            (TOP, 10, 5),
        ])

    def test_below(self):
        self.check("below", [
            (0, 0, 0), (0, 1, 1), (1, 0, 0), (1, 1, 0), (3, 9, 1), (9, 3, 0), (0, TOP, 1), (TOP, 0, 0),
            (TOP - 1, TOP, 1), (TOP, TOP - 1, 0), (TOP, TOP, 0), (HALF - 1, HALF, 1), (HALF, HALF - 1, 0),
        ])

    def test_same(self):
        self.check("same", [
            (0, 0, 1), (0, 1, 0), (1, 0, 0), (1, 1, 1), (9, 9, 1), (3, 9, 0), (0, TOP, 0), (TOP, 0, 0),
            (TOP - 1, TOP, 0), (TOP, TOP - 1, 0), (TOP, TOP, 1), (HALF, HALF, 1), (HALF, 0, 0), (2 ** 32, 0, 0),
        ])

    def test_both(self):
        self.check("both", [
            (0, 0, 0), (12, 10, 8), (TOP, 0, 0), (0, TOP, 0), (TOP, TOP, TOP), (TOP, 1, 1), (HALF, TOP, HALF),
            (ALTERNATE, TOP - ALTERNATE, 0), (ALTERNATE, TOP, ALTERNATE),
        ])

    def test_either(self):
        self.check("either", [
            (0, 0, 0), (12, 10, 14), (TOP, 0, TOP), (0, TOP, TOP), (TOP, TOP, TOP), (HALF, 1, HALF + 1),
            (ALTERNATE, TOP - ALTERNATE, TOP), (ALTERNATE, ALTERNATE, ALTERNATE),
        ])

    def test_unlike(self):
        self.check("unlike", [
            (0, 0, 0), (12, 10, 6), (TOP, 0, TOP), (0, TOP, TOP), (TOP, TOP, 0), (TOP, 1, TOP - 1),
            (ALTERNATE, TOP - ALTERNATE, TOP), (ALTERNATE, ALTERNATE, 0), (ALTERNATE, TOP, TOP - ALTERNATE),
        ])

    def test_up(self):
        self.check("up", [
            (0, 0, 0), (5, 0, 5), (TOP, 0, TOP), (5, 1, 10), (3, 4, 48), (HALF, 1, 0), (HALF + 1, 1, 2),
            (TOP, 1, TOP - 1), (1, 63, HALF), (2, 63, 0), (3, 63, HALF), (TOP, 63, HALF), (1, 64, 0), (TOP, 64, 0),
            (1, 65, 0), (TOP, 128, 0), (1, 1000, 0), (1, 2 ** 32, 0), (1, HALF, 0), (1, TOP, 0), (TOP, TOP, 0),
            (0, TOP, 0), (0, 63, 0),
        ])

    def test_down(self):
        self.check("down", [
            (0, 0, 0), (5, 0, 5), (TOP, 0, TOP), (5, 1, 2), (48, 4, 3), (1, 1, 0), (TOP, 1, HALF - 1),
            (TOP, 62, 3), (TOP, 63, 1), (HALF, 63, 1), (HALF - 1, 63, 0), (1, 64, 0), (TOP, 64, 0), (TOP, 65, 0),
            (TOP, 128, 0), (TOP, 1000, 0), (TOP, 2 ** 32, 0), (TOP, HALF, 0), (TOP, TOP, 0), (0, TOP, 0),
        ])


class AgainstCounting(unittest.TestCase):
    def check(self, word, wanted, pairs):
        for one, other in pairs:
            answer = reckon(word, one, other)
            if answer != wanted(one, other):
                self.fail(f"{word} {one} {other}: {answer}")

    def check_all(self, word, wanted):
        self.check(word, wanted, edge_pairs())
        self.check(word, wanted, drawn_pairs())

    def test_sums_differences_and_products(self):
        self.check_all("add", lambda one, other: brought(one + other))
        self.check_all("minus", lambda one, other: brought(one - other))
        self.check_all("times", lambda one, other: brought(one * other))

    def test_over_and_rest_make_up_the_one(self):
        for one, other in edge_pairs() + drawn_pairs():
            often, left = reckon("over", one, other), reckon("rest", one, other)
            with self.subTest(one=one, other=other):
                if other == 0:
                    self.assertEqual((often, left), (0, 0))
                else:
                    self.assertEqual(often * other + left, one)
                    self.assertTrue(0 <= left < other)

    def test_comparisons(self):
        self.check_all("below", lambda one, other: 1 if max(one, other) == other != one else 0)
        self.check_all("same", lambda one, other: 1 if figures(one) == figures(other) else 0)

    def test_figure_by_figure(self):
        self.check_all("both", lambda one, other: by_figures(one, other, (2,)))
        self.check_all("either", lambda one, other: by_figures(one, other, (1, 2)))
        self.check_all("unlike", lambda one, other: by_figures(one, other, (1,)))

    def test_each_of_the_64_figures(self):
        for k in range(64):
            bit = 2 ** k
            for one, other, both, either, unlike in (
                (bit, bit, bit, bit, 0), (bit, 0, 0, bit, bit), (0, bit, 0, bit, bit),
                (TOP, bit, bit, TOP, TOP - bit), (bit, TOP, bit, TOP, TOP - bit),
                (TOP - bit, bit, 0, TOP, TOP), (TOP - bit, TOP, TOP - bit, TOP, bit),
            ):
                with self.subTest(k=k, one=one, other=other):
                    self.assertEqual(reckon("both", one, other), both)
                    self.assertEqual(reckon("either", one, other), either)
                    self.assertEqual(reckon("unlike", one, other), unlike)

    def test_up_and_down(self):
        self.check_all("up", raised)
        self.check_all("down", lowered)

    def test_up_and_down_at_each_count(self):
        pairs = [(one, other) for one in EDGES + (ALTERNATE, TOP - ALTERNATE) for other in range(70)]
        self.check("up", raised, pairs)
        self.check("down", lowered, pairs)


class Kinds(unittest.TestCase):
    def test_each_answer_is_a_number_and_no_truth(self):
        for word in RECKONING:
            for one, other in edge_pairs() + drawn_pairs():
                answer = reckon(word, one, other)
                if type(answer) is not int or not 0 <= answer < WIDE:
                    self.fail(f"{word} {one} {other}: {answer!r}")

    def test_what_was_asked_before_changes_no_answer(self):
        asked = [(word, one, other) for word in RECKONING for one, other in edge_pairs()]
        first = [reckon(*one) for one in asked]
        self.assertEqual([reckon(*one) for one in asked[::-1]], first[::-1])

    def test_nothing_is_refused_somewhat_beyond_the_bounds(self):
        for word in RECKONING:
            for one in (-1, 0, 1, 5, WIDE, WIDE + 1):
                for other in (-65, -1, WIDE, WIDE + 1):
                    with self.subTest(word=word, one=one, other=other):
                        self.assertIs(type(reckon(word, one, other)), int)
                        self.assertIs(type(reckon(word, other, one)), int)
        self.assertEqual(reckon("add", WIDE, WIDE + 1), 1)
        self.assertEqual(reckon("minus", -1, WIDE), TOP)
        self.assertEqual(reckon("up", WIDE + 1, 1), 2)


if __name__ == "__main__":
    unittest.main()
