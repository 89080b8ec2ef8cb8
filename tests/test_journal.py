"""Point 16: the journal."""

import random
import unittest

from meterhouse.accounts import Account
from meterhouse.deeds import Deed, Move, Note, Save
from meterhouse.journal import Journal

SLOTS = (0, 3, 4, 15)


def sixteen():
    rooms = [None] * 16
    for slot in SLOTS:
        rooms[slot] = Account(100, 50, [("me",)])
    return rooms


def plains(rooms):
    return [None if account is None else account.plain() for account in rooms]


# A deed that fits the rooms as they are now.
def drawn_deed(draw, rooms):
    slot = draw.choice(SLOTS)
    kind = draw.choice("ssmn")
    if kind == "s":
        place = draw.randrange(3)
        return Save(slot, place, rooms[slot].loaded(place), draw.choice((0, 0, 1, 2)))
    if kind == "m":
        return Move(slot, draw.choice(SLOTS), draw.randint(0, rooms[slot].coin))
    return Note(slot, draw.randrange(9))


# The deed's telling alone says what worth and touched come to.
def worth_of(told):
    return sum(4 for deed in told if deed[0] == "save" and deed[3] != 0 and deed[4] == 0)


def touched_of(told):
    slots = [deed[1] for deed in told if deed[0] in ("save", "move")]
    return sorted(set(slots + [deed[2] for deed in told if deed[0] == "move"]))


class Journals(unittest.TestCase):
    def test_a_new_journal(self):
        rooms = sixteen()
        ahead = plains(rooms)
        journal = Journal(rooms)
        self.assertEqual((journal.mark(), journal.told(), journal.worth(), journal.touched()), (0, [], 0, []))
        self.assertIsNone(journal.back(0))
        self.assertEqual(plains(rooms), ahead)

    def test_a_deed_is_done_as_soon_as_it_is_written(self):
        rooms = sixteen()
        journal = Journal(rooms)
        self.assertIsNone(journal.write(Save(3, 8, 0, 9)))
        self.assertEqual(rooms[3].loaded(8), 9)
        self.assertEqual(journal.mark(), 1)
        journal.write(Move(3, 4, 100))
        self.assertEqual((rooms[3].coin, rooms[4].coin), (0, 200))
        self.assertEqual(journal.mark(), 2)
        journal.write(Note(4, 1))
        journal.write(Deed())
        self.assertEqual(journal.mark(), 4)
        self.assertEqual(journal.told(), [("save", 3, 8, 0, 9), ("move", 3, 4, 100), ("note", 4, 1), ("deed",)])
        self.assertEqual((journal.worth(), journal.touched()), (0, [3, 4]))

    def test_the_rooms_are_kept_as_they_are(self):
        rooms = sixteen()
        accounts = list(rooms)
        journal = Journal(rooms)
        late = Account(1, 1, [])
        rooms[7] = late
        journal.write(Save(7, 1, 0, 2))
        self.assertEqual(late.loaded(1), 2)
        accounts[7] = late
        self.assertTrue(all(now is first for now, first in zip(rooms, accounts)))

    def test_the_last_one_is_undone_first(self):
        rooms = sixteen()
        journal = Journal(rooms)
        for old, new in ((0, 5), (5, 6), (6, 0), (0, 7)):
            journal.write(Save(0, 1, old, new))
        for mark, number in ((3, 0), (2, 6), (1, 5), (0, 0)):
            journal.back(mark)
            self.assertEqual((journal.mark(), rooms[0].loaded(1)), (mark, number))

    def test_several_are_undone_at_once_in_their_order(self):
        seen = []

        class Seen(Deed):
            def __init__(self, name):
                self.name = name

            def do(self, rooms):
                seen.append(("do", self.name))

            def undo(self, rooms):
                seen.append(("undo", self.name))

        journal = Journal(sixteen())
        for name in "abcd":
            journal.write(Seen(name))
        journal.back(1)
        self.assertEqual(seen, [("do", name) for name in "abcd"] + [("undo", name) for name in "dcb"])
        journal.back(1)
        self.assertEqual(len(seen), 7)

    def test_back_to_each_mark_and_writing_on(self):
        for mark in range(13):
            draw = random.Random(16)
            rooms = sixteen()
            journal = Journal(rooms)
            states = [plains(rooms)]
            for turn in range(12):
                journal.write(drawn_deed(draw, rooms))
                states.append(plains(rooms))
            told = journal.told()
            self.assertIsNone(journal.back(mark))
            self.assertEqual(plains(rooms), states[mark])
            self.assertEqual((journal.mark(), journal.told()), (mark, told[:mark]))
            self.assertEqual((journal.worth(), journal.touched()), (worth_of(told[:mark]), touched_of(told[:mark])))
            journal.write(Move(0, 0, 1))
            journal.write(Note(15, 3))
            self.assertEqual(journal.told(), told[:mark] + [("move", 0, 0, 1), ("note", 15, 3)])
            self.assertEqual(journal.mark(), mark + 2)
            journal.back(0)
            self.assertEqual(plains(rooms), states[0])
            self.assertEqual((journal.mark(), journal.told(), journal.worth(), journal.touched()), (0, [], 0, []))

    def test_drawn_writing_and_going_back(self):
        draw = random.Random(160)
        rooms = sixteen()
        accounts = list(rooms)
        journal = Journal(rooms)
        states, told = [plains(rooms)], []
        for turn in range(1500):
            if draw.randrange(8) == 0:
                mark = draw.randint(0, len(told))
                journal.back(mark)
                del states[mark + 1:], told[mark:]
            else:
                deed = drawn_deed(draw, rooms)
                journal.write(deed)
                told.append(deed.told())
                states.append(plains(rooms))
            self.assertEqual(plains(rooms), states[-1])
            self.assertEqual((journal.mark(), journal.told()), (len(told), told))
            self.assertEqual((journal.worth(), journal.touched()), (worth_of(told), touched_of(told)))
        self.assertTrue(all(now is first for now, first in zip(rooms, accounts)))

    def test_worth_together(self):
        rooms = sixteen()
        journal = Journal(rooms)
        for slot in SLOTS:
            journal.write(Save(slot, 0, 0, 1))
        self.assertEqual(journal.worth(), 0)
        for k, slot in enumerate(SLOTS):
            journal.write(Save(slot, 0, 1, 0))
            self.assertEqual(journal.worth(), 4 * (k + 1))
            self.assertIs(type(journal.worth()), int)
        journal.back(6)
        self.assertEqual(journal.worth(), 8)

    def test_touched_rises_with_each_slot_once(self):
        journal = Journal(sixteen())
        journal.write(Save(15, 0, 0, 1))
        journal.write(Move(4, 3, 1))
        journal.write(Note(0, 1))
        journal.write(Save(4, 0, 0, 1))
        journal.write(Move(15, 3, 1))
        self.assertEqual(journal.touched(), [3, 4, 15])
        self.assertIs(type(journal.touched()), list)
        journal.back(1)
        self.assertEqual(journal.touched(), [15])

    def test_lists_told_are_the_askers_own(self):
        journal = Journal(sixteen())
        journal.write(Save(4, 0, 0, 1))
        told, touched = journal.told(), journal.touched()
        journal.write(Move(0, 3, 1))
        self.assertEqual((told, touched), ([("save", 4, 0, 0, 1)], [4]))
        journal.back(0)
        self.assertEqual((told, touched), ([("save", 4, 0, 0, 1)], [4]))
        journal.write(Note(0, 1))
        told.append(("deed",))
        touched.append(9)
        journal.told().clear()
        journal.touched().append(7)
        self.assertEqual((journal.told(), journal.touched(), journal.mark()), ([("note", 0, 1)], [], 1))

    def test_nothing_is_refused_somewhat_beyond_the_bounds(self):
        rooms = sixteen()
        journal = Journal(rooms)
        journal.write(Save(4, 0, 0, 1))
        journal.back(2)
        self.assertEqual((journal.mark(), rooms[4].loaded(0)), (1, 1))
        journal.back(-1)
        self.assertEqual((journal.mark(), rooms[4].loaded(0)), (0, 0))

    def test_two_journals_one_behind_the_other(self):
        rooms = sixteen()
        Journal(rooms).write(Save(4, 0, 0, 1))
        journal = Journal(rooms)
        journal.write(Save(4, 0, 1, 2))
        journal.back(0)
        self.assertEqual((journal.told(), rooms[4].loaded(0)), ([], 1))


if __name__ == "__main__":
    unittest.main()
