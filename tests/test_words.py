"""Points 2, 4 and 6: WIDE, the words, what rows take and leave, and their prices."""

import unittest

from meterhouse.words import WIDE, WORDS, leaves, numbered, price, takes

IN_ORDER = (
    "push drop copy swap add minus times over rest below same both either unlike up down jump jumpif "
    "load save me from sent word coin note call borrow look give fail"
).split()

WITH_NUMBER = ("push", "copy", "swap", "jump", "jumpif")

RECKONING = "add minus times over rest below same both either unlike up down".split()

# (takes, leaves) and the words that have them, as point 6 tells them; copy and swap apart.
FLOWS = (
    ((0, 1), ["push", "me", "from", "sent", "word"]),
    ((1, 0), ["drop", "jumpif", "note", "give", "fail"]),
    ((0, 0), ["jump"]),
    ((2, 1), RECKONING),
    ((1, 1), ["load", "coin"]),
    ((2, 0), ["save"]),
    ((4, 2), ["call"]),
    ((3, 2), ["borrow", "look"]),
)

PRICES_BUT_ONE = {
    "times": 2, "over": 2, "rest": 2, "load": 3, "coin": 3, "note": 4, "save": 5, "call": 8, "borrow": 6, "look": 6,
}

DEAR = {"save": 12, "call": 12}

# Behind push, jump and jumpif: the number there changes nothing of what is told here.
BEHIND = {
    "push": (0, 1, 5, 15, WIDE - 1),
    "copy": tuple(range(16)),
    "swap": tuple(range(1, 16)),
    "jump": (0, 1, 15, 60),
    "jumpif": (0, 1, 15, 60),
}


def rows_of(word):
    if word in BEHIND:
        return [(word, number) for number in BEHIND[word]]
    return [(word,)]


def all_rows():
    return [row for word in IN_ORDER for row in rows_of(word)]


class Words(unittest.TestCase):
    def test_wide(self):
        self.assertEqual(WIDE, 2 ** 64)
        self.assertIs(type(WIDE), int)

    def test_words_in_their_order(self):
        self.assertIs(type(WORDS), tuple)
        self.assertEqual(list(WORDS), IN_ORDER)
        self.assertEqual(len(WORDS), 31)
        self.assertEqual(WORDS.index("push"), 0)
        self.assertEqual(WORDS.index("fail"), 30)
        for word in WORDS:
            self.assertIs(type(word), str)

    def test_numbered_tells_just_the_five(self):
        for word in IN_ORDER:
            with self.subTest(word=word):
                self.assertIs(numbered(word), word in WITH_NUMBER)


class TakesAndLeaves(unittest.TestCase):
    def test_each_word_is_in_one_flow_but_copy_and_swap(self):
        told = sorted(word for flow, words in FLOWS for word in words)
        self.assertEqual(told, sorted(set(IN_ORDER) - {"copy", "swap"}))

    def test_words_with_one_flow(self):
        for (taken, left), words in FLOWS:
            for word in words:
                for row in rows_of(word):
                    with self.subTest(row=row):
                        self.assertEqual(takes(row), taken)
                        self.assertEqual(leaves(row), left)

    def test_copy_at_every_number(self):
        for k in range(16):
            with self.subTest(k=k):
                self.assertEqual(takes(("copy", k)), k + 1)
                self.assertEqual(leaves(("copy", k)), k + 2)

    def test_swap_at_every_number(self):
        for k in range(1, 16):
            with self.subTest(k=k):
                self.assertEqual(takes(("swap", k)), k + 1)
                self.assertEqual(leaves(("swap", k)), k + 1)

    def test_edges_by_hand(self):
        self.assertEqual((takes(("copy", 0)), leaves(("copy", 0))), (1, 2))
        self.assertEqual((takes(("copy", 15)), leaves(("copy", 15))), (16, 17))
        self.assertEqual((takes(("swap", 1)), leaves(("swap", 1))), (2, 2))
        self.assertEqual((takes(("swap", 15)), leaves(("swap", 15))), (16, 16))

    def test_nothing_is_refused_somewhat_beyond_the_bounds(self):
        self.assertEqual((takes(("copy", 16)), leaves(("copy", 16))), (17, 18))
        self.assertEqual((takes(("swap", 0)), leaves(("swap", 0))), (1, 1))
        self.assertEqual((takes(("swap", 16)), leaves(("swap", 16))), (17, 17))
        self.assertEqual((takes(("push", WIDE)), leaves(("push", WIDE))), (0, 1))
        self.assertEqual((takes(("jump", 61)), leaves(("jump", 61))), (0, 0))
        self.assertEqual((takes(("jumpif", -1)), leaves(("jumpif", -1))), (1, 0))


class Prices(unittest.TestCase):
    def test_dear_left_out_and_told_false(self):
        for row in all_rows():
            with self.subTest(row=row):
                wanted = PRICES_BUT_ONE.get(row[0], 1)
                self.assertEqual(price(row), wanted)
                self.assertEqual(price(row, False), wanted)
                self.assertEqual(price(row, dear=False), wanted)

    def test_dear_told_true(self):
        for row in all_rows():
            with self.subTest(row=row):
                wanted = DEAR.get(row[0], PRICES_BUT_ONE.get(row[0], 1))
                self.assertEqual(price(row, True), wanted)
                self.assertEqual(price(row, dear=True), wanted)

    def test_save_and_call_alone_are_another_price_where_dear(self):
        changed = [row[0] for row in all_rows() if price(row) != price(row, True)]
        self.assertEqual(changed, ["save", "call"])

    def test_nothing_is_refused_somewhat_beyond_the_bounds(self):
        for row in (("push", WIDE), ("push", -1), ("copy", 16), ("swap", 0), ("swap", 16), ("jump", 61), ("jumpif", -1)):
            with self.subTest(row=row):
                self.assertEqual((price(row), price(row, True)), (1, 1))


class Kinds(unittest.TestCase):
    def test_answers_are_ints_and_no_truths(self):
        for row in all_rows():
            for answer in (takes(row), leaves(row), price(row), price(row, False), price(row, True)):
                with self.subTest(row=row):
                    self.assertIs(type(answer), int)

    def test_what_was_asked_before_changes_no_answer(self):
        def asked(rows):
            return [(takes(row), leaves(row), price(row), price(row, True), numbered(row[0])) for row in rows]

        rows = all_rows()
        first = asked(rows)
        self.assertEqual(asked(rows[::-1])[::-1], first)
        self.assertEqual(asked(rows), first)
        self.assertEqual(rows, all_rows())


if __name__ == "__main__":
    unittest.main()
