"""Point 15: deeds done on rooms and undone, what they tell, their worth, what they touch."""

import unittest

from meterhouse.accounts import Account
from meterhouse.deeds import Deed, Move, Note, Save

TOP = 2 ** 64 - 1


def sixteen():
    rooms = [None] * 16
    for slot in (0, 1, 2, 7, 15):
        rooms[slot] = Account(100 + slot, 50 + slot, [("push", slot), ("give",)])
        rooms[slot].keep(slot, 7)
        rooms[slot].keep(200, 9)
    return rooms


def plains(rooms):
    return [None if account is None else account.plain() for account in rooms]


class Deeds(unittest.TestCase):
    # Does the deed and undoes it, and looks at all sixteen slots ahead and behind.
    def check(self, deed, change):
        rooms = sixteen()
        accounts = list(rooms)
        ahead = plains(rooms)
        wanted = sixteen()
        change(wanted)
        for turn in range(2):
            self.assertIsNone(deed.do(rooms))
            self.assertEqual(plains(rooms), plains(wanted))
            self.assertIsNone(deed.undo(rooms))
            self.assertEqual(plains(rooms), ahead)
        self.assertEqual(len(rooms), 16)
        for now, first in zip(rooms, accounts):
            self.assertIs(now, first)

    def check_told(self, deed, told, worth, touched):
        for turn in range(2):
            self.assertEqual(deed.told(), told)
            self.assertIs(type(deed.told()), tuple)
            self.assertEqual(deed.worth(), worth)
            self.assertIs(type(deed.worth()), int)
            self.assertEqual(deed.touched(), touched)
            self.assertIs(type(deed.touched()), list)

    def test_each_is_a_deed(self):
        for deed in (Save(0, 1, 0, 2), Move(0, 1, 2), Note(0, 1)):
            self.assertIsInstance(deed, Deed)

    def test_a_deed_itself(self):
        self.check(Deed(), lambda rooms: None)
        self.check_told(Deed(), ("deed",), 0, [])

    def test_save_at_an_empty_place(self):
        self.check(Save(2, 5, 0, 8), lambda rooms: rooms[2].keep(5, 8))
        self.check_told(Save(2, 5, 0, 8), ("save", 2, 5, 0, 8), 0, [2])

    def test_save_over_another_number(self):
        self.check(Save(15, 200, 9, TOP), lambda rooms: rooms[15].keep(200, TOP))
        self.check_told(Save(15, 200, 9, TOP), ("save", 15, 200, 9, TOP), 0, [15])

    def test_save_of_nought_over_another_number(self):
        self.check(Save(7, 7, 7, 0), lambda rooms: rooms[7].keep(7, 0))
        self.check_told(Save(7, 7, 7, 0), ("save", 7, 7, 7, 0), 4, [7])
        self.check_told(Save(0, TOP, TOP, 0), ("save", 0, TOP, TOP, 0), 4, [0])
        self.check_told(Save(0, 0, 1, 0), ("save", 0, 0, 1, 0), 4, [0])

    def test_save_of_the_same_number(self):
        self.check(Save(1, 200, 9, 9), lambda rooms: None)
        self.check_told(Save(1, 200, 9, 9), ("save", 1, 200, 9, 9), 0, [1])
        self.check(Save(1, 300, 0, 0), lambda rooms: None)
        self.check_told(Save(1, 300, 0, 0), ("save", 1, 300, 0, 0), 0, [1])

    def test_move(self):
        def change(rooms):
            rooms[1].coin, rooms[7].coin = 101 - 30, 107 + 30
        self.check(Move(1, 7, 30), change)
        self.check_told(Move(1, 7, 30), ("move", 1, 7, 30), 0, [1, 7])

    def test_move_of_all_the_coin(self):
        def change(rooms):
            rooms[15].coin, rooms[0].coin = 0, 215
        self.check(Move(15, 0, 115), change)
        self.check_told(Move(15, 0, 115), ("move", 15, 0, 115), 0, [0, 15])

    def test_move_to_the_very_same_account(self):
        for many in (0, 1, 102):
            self.check(Move(2, 2, many), lambda rooms: None)
            self.check_told(Move(2, 2, many), ("move", 2, 2, many), 0, [2])

    def test_move_of_nothing(self):
        self.check(Move(2, 1, 0), lambda rooms: None)
        self.check_told(Move(2, 1, 0), ("move", 2, 1, 0), 0, [1, 2])

    def test_note(self):
        self.check(Note(7, 12), lambda rooms: None)
        self.check_told(Note(7, 12), ("note", 7, 12), 0, [])
        self.check_told(Note(0, TOP), ("note", 0, TOP), 0, [])

    def test_a_told_list_is_the_askers_own(self):
        for deed, wanted in ((Save(2, 5, 0, 8), [2]), (Move(7, 1, 3), [1, 7]), (Note(1, 1), []), (Deed(), [])):
            told = deed.touched()
            told.append(9)
            self.assertEqual(deed.touched(), wanted)


class Chains(unittest.TestCase):
    def test_done_in_order_and_undone_from_the_last_one_back(self):
        deeds = [
            Save(0, 1, 0, 5), Move(0, 1, 100), Note(1, 4), Save(0, 1, 5, 6), Move(1, 1, 201), Save(0, 1, 6, 0),
            Move(1, 15, 201), Save(1, 200, 9, 0), Move(15, 2, 316), Save(1, 200, 0, 3), Note(15, 0), Move(2, 0, 1),
        ]
        rooms = sixteen()
        accounts = list(rooms)
        states = [plains(rooms)]
        for deed in deeds:
            deed.do(rooms)
            states.append(plains(rooms))
        self.assertEqual([rooms[slot].coin for slot in (0, 1, 2, 7, 15)], [1, 0, 417, 107, 0])
        self.assertEqual((rooms[0].loaded(1), rooms[1].loaded(200)), (0, 3))
        for k in range(len(deeds) - 1, -1, -1):
            self.assertEqual(plains(rooms), states[k + 1])
            deeds[k].undo(rooms)
            self.assertEqual(plains(rooms), states[k])
        self.assertTrue(all(now is first for now, first in zip(rooms, accounts)))


if __name__ == "__main__":
    unittest.main()
