"""Point 28: the desk."""

import unittest

from meterhouse import errors
from meterhouse.codes import read
from meterhouse.desk import Desk
from meterhouse.errors import (
    HouseError, NoAccount, NoCode, NoLimit, NoRow, NoSlot, PoorCoin, PoorPurse, Taken, TooMuch,
)
from meterhouse.house import House
from meterhouse.notes import read_paper, show_paper
from meterhouse.papers import holds

WIDE = 2 ** 64
TOP = WIDE - 1

REFUSALS = (
    "NoCode", "NoClash", "NoSlot", "Taken", "NoNumber", "TooMuch", "NoAccount", "NoLimit", "PoorPurse", "PoorCoin",
    "NoPaper", "NoRow",
)

SAVER = "push 3; word; save; word; give"


def small_desk():
    desk = Desk()
    desk.say("admit 0 100 6000")
    desk.say("admit 1 50 10 " + SAVER)
    return desk


def state(desk):
    told = [desk.say("till"), desk.say("top")]
    for slot in range(16):
        told.append(desk.say(f"paper {slot}"))
    return told


class DeskCase(unittest.TestCase):
    def refused(self, kind, desk, row):
        ahead = state(desk)
        with self.subTest(row=row[:80]):
            with self.assertRaises(HouseError) as seen:
                desk.say(row)
            self.assertEqual([name for name in REFUSALS if isinstance(seen.exception, getattr(errors, name))], [kind.__name__])
            self.assertEqual(state(desk), ahead)


class Answers(DeskCase):
    def test_each_row(self):
        desk = Desk()
        for row, answer in (
            ("till", "0"),
            ("admit 0 100 6000", "ok"),
            ("admit 1 50 10 push 3; word; save; word; give", "ok"),
            ("coin 0", "100"), ("purse 0", "6000"), ("count 0", "0"), ("load 0 3", "0"), ("code 0", ""),
            ("coin 1", "50"), ("purse 1", "10"), ("count 1", "0"), ("load 1 3", "0"), ("code 1", SAVER),
            ("try 0 1 5 100 7", "well 7 26 26"),
            ("coin 0", "100"), ("load 1 3", "0"), ("count 0", "0"), ("till", "0"),
            ("send 0 1 5 100 7", "well 7 26 26"),
            ("coin 0", "95"), ("coin 1", "55"), ("load 1 3", "7"), ("load 1 2", "0"), ("count 0", "1"), ("count 1", "0"),
            ("purse 0", "5974"), ("till", "26"),
            ("try 0 1 5 100", "well 0 19 15"), ("load 1 3", "7"),
            ("send 0 1 5 100", "well 0 19 15"),
            ("coin 0", "90"), ("load 1 3", "0"), ("till", "41"), ("purse 0", "5959"), ("count 0", "2"),
            ("send 0 1 0 12 9", "dry 0 12 12"),
            ("till", "53"), ("count 0", "3"), ("load 1 3", "0"),
            (f"load 1 {TOP}", "0"),
            ("send 0 1 0 5000 18446744073709551615", f"well {TOP} 26 26"),
            ("load 1 3", str(TOP)),
        ):
            with self.subTest(row=row):
                told = desk.say(row)
                self.assertEqual(told, answer)
                self.assertIs(type(told), str)

    def test_the_same_as_a_house(self):
        desk, house = small_desk(), House()
        house.admit(0, 100, 6000, [])
        house.admit(1, 50, 10, read(SAVER))
        for word in (7, 7, 0, 0, 5):
            told = house.send(0, 1, 3, 200, word)
            self.assertEqual(desk.say(f"send 0 1 3 200 {word}"), " ".join(str(part) for part in told[:4]))
            self.assertEqual((desk.say("top"), desk.say("till")), (str(house.top()), str(house.till())))
            for slot in range(16):
                self.assertEqual(desk.say(f"paper {slot}"), show_paper(house.paper(slot)))
                self.assertTrue(holds(read_paper(desk.say(f"paper {slot}")), int(desk.say("top"))))
            for slot in (0, 1):
                self.assertEqual(desk.say(f"coin {slot}"), str(house.coin_of(slot)))
                self.assertEqual(desk.say(f"purse {slot}"), str(house.purse_of(slot)))
                self.assertEqual(desk.say(f"count {slot}"), str(house.count_of(slot)))
                self.assertEqual(desk.say(f"load {slot} 3"), str(house.loaded(slot, 3)))

    def test_paper_of_an_account_and_of_none(self):
        desk = small_desk()
        self.assertTrue(desk.say("paper 0").startswith("0 / 0 100 6000 0 0 / "))
        self.assertTrue(desk.say("paper 15").startswith("15 /  / "))
        self.assertEqual(len(desk.say("paper 15").split(" / ")[2].split(" ")), 4)

    def test_admit_without_rows(self):
        desk = Desk()
        self.assertEqual(desk.say("admit 3 1 2"), "ok")
        self.assertEqual(desk.say("admit 4 1 2 "), "ok")
        self.assertEqual([desk.say("code 3"), desk.say("code 4")], ["", ""])
        self.refused(NoCode, desk, "admit 5 1 2  ")
        self.refused(NoCode, desk, "admit 5 1 2   ")

    def test_send_tells_a_bad_end(self):
        desk = Desk()
        desk.say("admit 0 1 1000 word; fail")
        self.assertEqual(desk.say("send 0 0 1 100 4"), "fail 4 12 12")

    def test_desks_keep_apart(self):
        one, other = small_desk(), Desk()
        self.refused(NoAccount, other, "coin 0")
        self.assertEqual(one.say("coin 0"), "100")


class NoRows(DeskCase):
    def test_rows_that_are_none(self):
        desk = small_desk()
        for row in (
            "", " ", "none", "Till", "TILL", "tills", "til", "0", "send", "try", "coin", "purse", "count", "load", "code",
            "paper", "admit", "admit 5", "admit 5 1", "send 0", "send 0 1", "send 0 1 0", "try 0 1 0", "load 0", "stamp",
            "tried 0 1 0 100", "plain 0", "~",
        ):
            self.refused(NoRow, desk, row)

    def test_words_too_many(self):
        desk = small_desk()
        for row in (
            "till 0", "top 0", "coin 0 0", "purse 0 0", "count 0 0", "load 0 0 0", "code 0 0", "paper 0 0",
            "send 0 1 0 100 0 0", "try 0 1 0 100 0 0", "till till",
        ):
            self.refused(NoRow, desk, row)

    def test_blanks_too_many_or_lacking(self):
        desk = small_desk()
        for row in (
            " till", "till ", "top ", " top", "  ", "coin  0", "coin 0 ", " coin 0", "coin0", "purse  0", "count 0 ",
            "load 0  3", "load 0 3 ", "load  0 3", "code 0 ", "paper  0", "paper 0 ", "send 0 1 0 100 ", "send  0 1 0 100",
            "send 0 1 0 100  0", "send 0 1 0 100 0 ", "send 0  1 0 100 0", "try 0 1 0 100 ", "send0 1 0 100", " send 0 1 0 100",
            "admit  5 1 2", "admit 5  1 2", "admit 5 1  2", " admit 5 1 2", "admit 5 1 ", "admit5 1 2", "admit 5 1  ",
        ):
            self.refused(NoRow, desk, row)

    def test_another_thing_where_a_number_is_wanted(self):
        desk = small_desk()
        for thing in ("x", "-1", "+1", "00", "01", "1.0", str(WIDE), "9" * 20, "1" * 21, "1" * 5000, "0x1", "1_0", "push", "1;"):
            for row in (
                "coin {}", "purse {}", "count {}", "load {} 0", "load 0 {}", "code {}", "paper {}", "send {} 1 0 100 0",
                "send 0 {} 0 100 0", "send 0 1 {} 100 0", "send 0 1 0 {} 0", "send 0 1 0 100 {}", "send 0 1 0 {}",
                "try {} 1 0 100 0", "try 0 {} 0 100 0", "try 0 1 {} 100 0", "try 0 1 0 {} 0", "try 0 1 0 100 {}",
                "admit {} 1 2", "admit 5 {} 2", "admit 5 1 {}", "admit {} 1 2 me", "admit 5 {} 2 me", "admit 5 1 {} me",
                "till {}", "top {}",
            ):
                self.refused(NoRow, desk, row.format(thing))

    def test_no_row_goes_ahead_of_no_code(self):
        self.refused(NoRow, small_desk(), "admit x 1 2 none")
        self.refused(NoRow, small_desk(), "admit 5 1 -2 none")


class NoPrograms(DeskCase):
    def test_programs_that_are_none(self):
        desk = small_desk()
        for text in (
            "none", " me", "me ", "me;", "me; ", "me;me", "me;  me", "push", "push  1", "push 1 ", "copy 16", "swap 0", "jump 2",
            "push 18446744073709551616", "; ", "; ".join(["me"] * 61), "add 1", "  me", "me  ", "0", "-1",
        ):
            self.refused(NoCode, desk, "admit 5 1 2 " + text)
        self.assertEqual(desk.say("admit 5 1 2 " + "; ".join(["me"] * 60)), "ok")

    def test_no_code_goes_ahead_of_the_houses_refusals(self):
        desk = small_desk()
        for row in ("admit 16 1 2 none", "admit 0 1 2 none", f"admit 5 {TOP} 2 none", f"admit 5 1 {TOP} none"):
            self.refused(NoCode, desk, row)


class RefusedByTheHouse(DeskCase):
    def test_admit(self):
        desk = small_desk()
        self.refused(NoSlot, desk, "admit 16 1 2")
        self.refused(NoSlot, desk, f"admit {TOP} 1 2 me")
        self.refused(Taken, desk, "admit 0 1 2")
        self.refused(Taken, desk, f"admit 0 {TOP} 2 me")
        self.refused(TooMuch, desk, f"admit 5 {TOP} 2")
        self.refused(TooMuch, desk, f"admit 5 {WIDE - 150} 2")
        self.refused(TooMuch, desk, f"admit 5 1 {WIDE - 6010}")
        self.assertEqual(desk.say(f"admit 5 {WIDE - 151} {WIDE - 6011} me"), "ok")

    def test_letters(self):
        desk = small_desk()
        for word in ("send", "try"):
            for slot in (2, 15, 16, TOP):
                self.refused(NoAccount, desk, f"{word} {slot} 1 0 100")
                self.refused(NoAccount, desk, f"{word} 0 {slot} 0 100 5")
            for limit in (0, 9, 5001, TOP):
                self.refused(NoLimit, desk, f"{word} 0 1 0 {limit}")
            self.refused(PoorPurse, desk, f"{word} 1 0 0 11 0")
            self.refused(PoorCoin, desk, f"{word} 0 1 101 100 0")
            self.refused(NoAccount, desk, f"{word} 9 1 500 9")
            self.refused(NoLimit, desk, f"{word} 1 0 500 9")
            self.refused(PoorPurse, desk, f"{word} 1 0 500 11")

    def test_slots_without_an_account(self):
        desk = small_desk()
        for slot in (2, 15, 16, 17, TOP):
            for row in ("coin {}", "purse {}", "count {}", "load {} 0", "code {}"):
                self.refused(NoAccount, desk, row.format(slot))

    def test_paper_of_no_slot(self):
        desk = small_desk()
        for slot in (16, 17, TOP):
            self.refused(NoSlot, desk, f"paper {slot}")
        for slot in range(16):
            self.assertTrue(desk.say(f"paper {slot}").startswith(f"{slot} / "))


if __name__ == "__main__":
    unittest.main()
