"""Points 14 and 2: accounts, their store and their plain list."""

import random
import unittest

from meterhouse.accounts import Account, account_at

WIDE = 2 ** 64
TOP = WIDE - 1

WORDS = (
    "push drop copy swap add minus times over rest below same both either unlike up down jump jumpif "
    "load save me from sent word coin note call borrow look give fail"
).split()

NUMBERED = ("push", "copy", "swap", "jump", "jumpif")


class NewAccounts(unittest.TestCase):
    def test_values_of_a_new_account(self):
        for coin, purse, program in (
            (0, 0, []), (5, 7, [("push", 1), ("give",)]), (TOP, TOP, [("me",)] * 60),
        ):
            account = Account(coin, purse, program)
            self.assertEqual((account.coin, account.purse, account.count), (coin, purse, 0))
            self.assertEqual(account.program, program)
            self.assertIs(type(account.program), list)
            self.assertTrue(all(type(row) is tuple for row in account.program))

    def test_the_program_is_kept_as_a_copy(self):
        program = [("push", 1), ("give",)]
        account = Account(5, 7, program)
        program.append(("fail",))
        program[0] = ("push", 9)
        self.assertEqual(account.program, [("push", 1), ("give",)])
        self.assertEqual(account.plain(), [0, 5, 7, 2, 0, 1, 29, 0, 0])
        program.clear()
        self.assertEqual(account.plain(), [0, 5, 7, 2, 0, 1, 29, 0, 0])

    def test_what_is_handed_in_stays_as_it_was(self):
        program = [("push", 1), ("give",)]
        account = Account(5, 7, program)
        account.keep(1, 2)
        account.plain()
        self.assertEqual(program, [("push", 1), ("give",)])

    def test_accounts_of_one_program_keep_apart(self):
        program = [("me",)]
        one, other = Account(1, 2, program), Account(1, 2, program)
        one.keep(4, 5)
        one.coin = 9
        self.assertEqual((other.loaded(4), other.coin), (0, 1))


class Stores(unittest.TestCase):
    def test_nought_where_nothing_was_put(self):
        account = Account(1, 2, [])
        for place in (0, 1, 2, 2 ** 32, 2 ** 63, TOP):
            self.assertEqual(account.loaded(place), 0)
        self.assertEqual(account.plain(), [0, 1, 2, 0, 0])

    def test_numbers_at_neighbouring_and_far_places(self):
        account = Account(1, 2, [])
        put = {0: 10, 1: TOP, 2: 1, 7: 3, 2 ** 32: 4, 2 ** 63: 5, TOP - 1: 6, TOP: 7}
        for place in put:
            self.assertIsNone(account.keep(place, put[place]))
        for place in put:
            self.assertEqual(account.loaded(place), put[place])
        for place in (3, 6, 8, 2 ** 32 - 1, 2 ** 32 + 1, 2 ** 63 - 1, TOP - 2):
            self.assertEqual(account.loaded(place), 0)

    def test_put_over_and_over(self):
        account = Account(1, 2, [])
        for number in (5, 6, 5, 0, 0, 7, 0, TOP, 1):
            account.keep(3, number)
            self.assertEqual(account.loaded(3), number)
            self.assertEqual((account.loaded(2), account.loaded(4)), (0, 0))
            self.assertEqual(account.plain(), [0, 1, 2, 0] + ([1, 3, number] if number else [0]))

    def test_drawn_puts(self):
        draw = random.Random(14)
        account, put = Account(1, 2, []), {}
        for turn in range(1500):
            place, number = draw.choice((0, 1, 2, 3, 9, TOP, 2 ** 40)), draw.choice((0, 0, 1, 2, TOP))
            account.keep(place, number)
            put[place] = number
            self.assertEqual([account.loaded(place) for place in put], list(put.values()))
            full = sorted(place for place in put if put[place] != 0)
            wanted = [0, 1, 2, 0, len(full)] + [part for place in full for part in (place, put[place])]
            self.assertEqual(account.plain(), wanted)


class PlainLists(unittest.TestCase):
    def test_number_by_number(self):
        account = Account(100, 50, [("push", 7), ("add",), ("swap", 3), ("jump", 0), ("fail",)])
        account.count = 4
        account.keep(9, 90)
        account.keep(2, 20)
        account.keep(5, 0)
        self.assertEqual(account.plain(), [4, 100, 50, 5, 0, 7, 4, 0, 3, 3, 16, 0, 30, 0, 2, 2, 20, 9, 90])

    def test_each_word(self):
        for k, word in enumerate(WORDS):
            row = (word, 1) if word in NUMBERED else (word,)
            with self.subTest(word=word):
                self.assertEqual(Account(0, 0, [row]).plain(), [0, 0, 0, 1, k, len(row) - 1, 0])

    def test_places_rise_as_numbers(self):
        account = Account(0, 0, [])
        for place in (TOP, 10, 9, 2 ** 40, 0, 100):
            account.keep(place, 1)
        self.assertEqual(account.plain(), [0, 0, 0, 0, 6, 0, 1, 9, 1, 10, 1, 100, 1, 2 ** 40, 1, TOP, 1])

    def test_values_that_change_are_told(self):
        account = Account(1, 2, [])
        account.coin, account.purse, account.count = 11, 12, 13
        self.assertEqual(account.plain(), [13, 11, 12, 0, 0])

    def test_the_same_state_by_other_roads(self):
        one, other = Account(3, 4, [("me",)]), Account(9, 4, [("me",)])
        for place, number in ((1, 5), (2, 6), (7, 1)):
            one.keep(place, number)
        for place, number in ((7, 1), (4, 4), (2, 1), (1, 5), (4, 0), (2, 6), (9, 0)):
            other.keep(place, number)
        other.coin = 3
        self.assertEqual(one.plain(), other.plain())

    def test_unlike_accounts_have_unlike_lists(self):
        accounts = [
            Account(0, 0, []), Account(1, 0, []), Account(0, 1, []), Account(0, 0, [("push", 0)]),
            Account(0, 0, [("push", 1)]), Account(0, 0, [("drop",)]), Account(0, 0, [("push", 0), ("push", 0)]),
        ]
        for put in (((0, 1),), ((1, 1),), ((0, 2),), ((0, 1), (1, 1))):
            account = Account(0, 0, [])
            for place, number in put:
                account.keep(place, number)
            accounts.append(account)
        counted = Account(0, 0, [])
        counted.count = 1
        accounts.append(counted)
        lists = [tuple(account.plain()) for account in accounts]
        self.assertEqual(len(set(lists)), len(lists))

    def test_a_told_list_is_the_askers_own(self):
        account = Account(1, 2, [("me",)])
        account.keep(3, 4)
        told = account.plain()
        wanted = [0, 1, 2, 1, 20, 0, 1, 3, 4]
        account.keep(3, 5)
        account.keep(4, 5)
        account.coin = 7
        self.assertEqual(told, wanted)
        account.keep(3, 4)
        account.keep(4, 0)
        account.coin = 1
        told[0] = 99
        told.clear()
        self.assertEqual(account.plain(), wanted)
        self.assertTrue(all(type(number) is int for number in account.plain()))


class Rooms(unittest.TestCase):
    def test_account_at(self):
        account, last = Account(1, 2, []), Account(3, 4, [])
        rooms = [None] * 16
        rooms[3], rooms[15] = account, last
        self.assertIs(account_at(rooms, 3), account)
        self.assertIs(account_at(rooms, 15), last)
        for slot in (0, 14, 16, 17, -1, -13, -16, WIDE, -WIDE):
            self.assertIsNone(account_at(rooms, slot))


if __name__ == "__main__":
    unittest.main()
