"""Points 4, 7 and 8: when a program is right, and how it is written."""

import random
import unittest

from meterhouse import errors
from meterhouse.codes import read, right, shown
from meterhouse.errors import HouseError, NoCode

WIDE = 2 ** 64

WORDS = (
    "push drop copy swap add minus times over rest below same both either unlike up down jump jumpif "
    "load save me from sent word coin note call borrow look give fail"
).split()

NUMBERED = ("push", "copy", "swap", "jump", "jumpif")

OTHER_REFUSALS = (
    "NoClash", "NoSlot", "Taken", "NoNumber", "TooMuch", "NoAccount", "NoLimit", "PoorPurse", "PoorCoin", "NoPaper",
    "NoRow",
)

GREAT = 10 ** 399


def plain_row(word):
    return (word, 1) if word in NUMBERED else (word,)


def drawn_row(draw, count):
    word = draw.choice(WORDS)
    if word == "push":
        return (word, draw.choice((0, 1, WIDE - 1, draw.getrandbits(64))))
    if word == "copy":
        return (word, draw.randint(0, 15))
    if word == "swap":
        return (word, draw.randint(1, 15))
    if word in NUMBERED:
        return (word, draw.randint(0, count))
    return (word,)


def drawn_programs():
    draw = random.Random(7)
    counts = [0, 1, 2, 3, 59, 60] + [draw.randint(0, 60) for turn in range(200)]
    return [[drawn_row(draw, count) for turn in range(count)] for count in counts]


class RightPrograms(unittest.TestCase):
    def check(self, rows, wanted):
        with self.subTest(rows=str(rows)[:80]):
            before = list(rows)
            self.assertIs(right(rows), wanted)
            self.assertEqual(rows, before)

    def test_no_rows(self):
        self.check([], True)

    def test_each_word_as_a_right_row(self):
        for word in WORDS:
            self.check([plain_row(word)], True)
        self.check([plain_row(word) for word in WORDS], True)

    def test_a_number_lacking(self):
        for word in NUMBERED:
            self.check([(word,)], False)
            self.check([("me",), (word,), ("drop",)], False)

    def test_a_number_too_many(self):
        for word in WORDS:
            if word not in NUMBERED:
                for number in (0, 1, 5, -1):
                    self.check([(word, number)], False)

    def test_tuples_of_no_text_or_of_too_much(self):
        self.check([()], False)
        self.check([("push", 1, 2)], False)
        self.check([("add", 1, 2)], False)

    def test_a_word_that_is_none(self):
        for word in ("", " ", "Push", "PUSH", "pushes", "pus", "push ", " push", "push 1", "adds", "sub", "0", ";", "deed"):
            self.check([(word,)], False)
            self.check([(word, 1)], False)
            self.check([("me",), (word,)], False)

    def test_the_number_behind_push(self):
        for number in (0, 1, 15, 16, 60, 61, 2 ** 63, WIDE - 1):
            self.check([("push", number)], True)
        for number in (-1, -WIDE, WIDE, WIDE + 1, GREAT, -GREAT):
            self.check([("push", number)], False)

    def test_the_number_behind_copy(self):
        for number in range(16):
            self.check([("copy", number)], True)
        for number in (-2, -1, 16, 17, WIDE, GREAT, -GREAT):
            self.check([("copy", number)], False)

    def test_the_number_behind_swap(self):
        for number in range(1, 16):
            self.check([("swap", number)], True)
        for number in (-1, 0, 16, 17, WIDE, GREAT, -GREAT):
            self.check([("swap", number)], False)

    def test_the_number_behind_jump_and_jumpif(self):
        for word in ("jump", "jumpif"):
            for count in (1, 2, 10, 59, 60):
                rows = [("me",)] * (count - 1)
                for number in (0, 1, count - 1, count):
                    self.check(rows + [(word, number)], True)
                    self.check([(word, number)] + rows, True)
                for number in (-1, count + 1, count + 2, WIDE, GREAT, -GREAT):
                    self.check(rows + [(word, number)], False)
                    self.check([(word, number)] + rows, False)

    def test_sixty_rows_and_one_more(self):
        self.check([("me",)] * 59, True)
        self.check([("me",)] * 60, True)
        self.check([("me",)] * 61, False)
        self.check([("me",)] * 62, False)
        self.check([("me",)] * 1000, False)

    def test_one_wrong_row_at_any_place(self):
        for count in (1, 2, 60):
            for k in (0, count // 2, count - 1):
                for row in (("none",), ("push",), ("add", 0), ("copy", 16), ("jump", count + 1)):
                    rows = [("me",)] * count
                    rows[k] = row
                    self.check(rows, False)

    def test_drawn_programs(self):
        for rows in drawn_programs():
            self.check(rows, True)


class WrittenPrograms(unittest.TestCase):
    def test_the_text_of_a_program(self):
        for rows, text in (
            ([], ""),
            ([("add",)], "add"),
            ([("push", 0)], "push 0"),
            ([("push", WIDE - 1)], "push 18446744073709551615"),
            ([("push", 5), ("copy", 0), ("swap", 1), ("jump", 4), ("jumpif", 5)], "push 5; copy 0; swap 1; jump 4; jumpif 5"),
            ([("word",), ("push", 10), ("below",), ("give",)], "word; push 10; below; give"),
        ):
            with self.subTest(text=text):
                self.assertEqual(shown(rows), text)
                self.assertEqual(read(text), rows)

    def test_each_word_alone(self):
        for word in WORDS:
            text = word + " 1" if word in NUMBERED else word
            with self.subTest(word=word):
                self.assertEqual(shown([plain_row(word)]), text)
                self.assertEqual(read(text), [plain_row(word)])

    def test_what_is_shown_is_read_as_the_very_rows(self):
        for rows in drawn_programs():
            before = list(rows)
            text = shown(rows)
            self.assertEqual(rows, before)
            told = read(text)
            self.assertEqual(told, rows)
            self.assertIs(type(told), list)
            for row in told:
                self.assertIs(type(row), tuple)
                self.assertEqual([type(part) for part in row], [str, int][:len(row)])
            self.assertEqual(shown(told), text)

    def test_sixty_rows_are_read(self):
        self.assertEqual(read("; ".join(["me"] * 60)), [("me",)] * 60)
        self.assertEqual(read("; ".join(["jump 60"] * 60)), [("jump", 60)] * 60)

    def test_nothing_is_refused_by_shown_somewhat_beyond_the_bounds(self):
        self.assertEqual(shown([("me",)] * 61), "; ".join(["me"] * 61))
        self.assertEqual(shown([("push", WIDE), ("copy", 16), ("swap", 0), ("jump", 61)]),
                         "push 18446744073709551616; copy 16; swap 0; jump 61")

    def test_a_told_list_is_new(self):
        for text in ("", "push 1; drop"):
            first = read(text)
            first.append(("fail",))
            self.assertEqual(shown(read(text)), text)


class NoPrograms(unittest.TestCase):
    def check(self, texts):
        for text in texts:
            with self.subTest(text=text[:80]):
                with self.assertRaises(NoCode):
                    read(text)

    def test_blanks_too_many_or_lacking(self):
        self.check([
            " ", "  ", " add", "add ", " add ", "push  5", "push 5 ", " push 5", "push5", "push 5 6", "push 5 5 5",
            "add;  add", "add ; add", "add;add", "push 5;add", "add; push 5 ; add", "add;", "pu sh 5", "push 1 0",
        ])

    def test_another_parting(self):
        self.check(["add, add", "add. add", "add: add", "add\nadd", "add;\nadd", "add add", "add;;add", "add\tadd", "add | add"])

    def test_an_empty_part(self):
        self.check(["; ", "; add", "add; ", "add; ; add", "; ; ", ";", "add; add; "])

    def test_a_word_that_is_none(self):
        self.check(["adds", "Add", "ADD", "ad", "sub", "0", "5", "deed", "add; none", "none 5", "5 push", "~", "ad d"])

    def test_a_number_that_is_none(self):
        self.check([
            "push", "push x", "push -1", "push +1", "push 01", "push 00", "push 1x", "push x1", "push 0x1", "push 1_0",
            "push ", "copy ", "push " + "1" * 21, "push " + "1" * 5000, "jump", "jumpif", "copy", "swap", "push push",
        ])

    def test_a_number_out_of_bounds(self):
        self.check([
            "push 18446744073709551616", "push 99999999999999999999", "copy 16", "swap 0", "swap 16", "jump 2",
            "jumpif 2", "jump 3; add", "jumpif 3; add", "add; jump 3", "jump 60", "copy 18446744073709551616",
        ])
        self.assertEqual(read("jump 1"), [("jump", 1)])
        self.assertEqual(read("copy 15; swap 15; swap 1"), [("copy", 15), ("swap", 15), ("swap", 1)])

    def test_a_number_too_many(self):
        self.check([word + " 1" for word in WORDS if word not in NUMBERED])
        self.check(["add 0", "give 5; add", "word 1"])

    def test_more_than_sixty_rows(self):
        self.check(["; ".join(["me"] * 61), "; ".join(["me"] * 62), "; ".join(["me"] * 3000)])

    def test_no_code_is_taken_as_told_and_is_none_of_the_others(self):
        for kind in (NoCode, HouseError, ValueError):
            with self.assertRaises(kind):
                read("none")
        try:
            read("none")
        except HouseError as error:
            for name in OTHER_REFUSALS:
                self.assertNotIsInstance(error, getattr(errors, name))


if __name__ == "__main__":
    unittest.main()
