"""Points 23 to 26 and 2: admitting, letters sent and tried, the top and the papers."""

import itertools
import unittest

from meterhouse import errors
from meterhouse.codes import read
from meterhouse.errors import (
    HouseError, NoAccount, NoCode, NoLimit, NoNumber, NoSlot, PoorCoin, PoorPurse, Taken, TooMuch,
)
from meterhouse.house import House
from meterhouse.papers import holds
from meterhouse.stamps import levels, stamp

WIDE = 2 ** 64
TOP = WIDE - 1
GREAT = 10 ** 399

NO_SLOTS = (-1, -2, -16, -17, 16, 17, 31, WIDE, -WIDE, GREAT, -GREAT)
NO_NUMBERS = (-1, -WIDE, WIDE, WIDE + 1, GREAT, -GREAT)

BAD_PROGRAMS = (
    [("none",)], [("push",)], [("push", -1)], [("push", WIDE)], [("copy", 16)], [("swap", 0)], [("swap", 16)],
    [("jump", 2)], [("jumpif", -1)], [("add", 1)], [("me",)] * 61,
)

REFUSALS = (
    "NoCode", "NoClash", "NoSlot", "Taken", "NoNumber", "TooMuch", "NoAccount", "NoLimit", "PoorPurse", "PoorCoin",
    "NoPaper", "NoRow",
)


def state(house):
    return (
        [house.plain(slot) for slot in range(16)], house.till(), house.top(), [house.paper(slot) for slot in range(16)],
    )


# Slots 0 to 2: 0 sends, 1 saves its word at some places, 2 has no rows.
def small_house():
    house = House()
    house.admit(0, 100, 6000, [])
    house.admit(1, 50, 10, read("; ".join(f"push {place}; word; save" for place in range(12))))
    house.admit(2, 0, 0, [])
    return house


class HouseCase(unittest.TestCase):
    def refused(self, kind, house, deed):
        ahead = state(house)
        with self.assertRaises(HouseError) as seen:
            deed()
        self.assertEqual([name for name in REFUSALS if isinstance(seen.exception, getattr(errors, name))], [kind.__name__])
        self.assertEqual(state(house), ahead)

    def check_papers(self, house):
        plains = [house.plain(slot) for slot in range(16)]
        above = levels([stamp(numbers) for numbers in plains])
        self.assertEqual(house.top(), above[-1][0])
        for slot in range(16):
            place, numbers, way = house.paper(slot)
            self.assertEqual((place, numbers), (slot, plains[slot]))
            self.assertEqual(way, [above[k][slot >> k ^ 1] for k in range(4)])
            self.assertTrue(holds(house.paper(slot), house.top()))


class EmptyHouses(HouseCase):
    def test_a_new_house(self):
        house = House()
        self.assertEqual(house.till(), 0)
        self.assertEqual([house.plain(slot) for slot in range(16)], [[]] * 16)
        self.assertEqual(house.top(), levels([stamp([])] * 16)[-1][0])
        self.check_papers(house)

    def test_nothing_is_asked_of_a_slot_without_an_account(self):
        for house, slots in ((House(), range(16)), (small_house(), range(3, 16)), (small_house(), NO_SLOTS)):
            for slot in slots:
                for ask in (house.coin_of, house.purse_of, house.count_of, house.program_of):
                    self.refused(NoAccount, house, lambda: ask(slot))
                self.refused(NoAccount, house, lambda: house.loaded(slot, 0))

    def test_no_paper_and_no_plain_list_of_no_slot(self):
        for house in (House(), small_house()):
            for slot in NO_SLOTS:
                self.refused(NoSlot, house, lambda: house.plain(slot))
                self.refused(NoSlot, house, lambda: house.paper(slot))

    def test_houses_keep_apart(self):
        one, other = House(), House()
        one.admit(3, 1, 2, [])
        self.assertEqual(other.plain(3), [])
        other.admit(3, 5, 6, [])
        self.assertEqual((one.coin_of(3), other.coin_of(3)), (1, 5))


class Admitting(HouseCase):
    def test_an_account_stands_there(self):
        house = House()
        rows = [("push", 1), ("give",)]
        for slot in range(16):
            self.assertIsNone(house.admit(slot, 10 + slot, 20 + slot, rows[:slot % 3]))
            self.assertEqual((house.coin_of(slot), house.purse_of(slot), house.count_of(slot)), (10 + slot, 20 + slot, 0))
            self.assertEqual(house.program_of(slot), rows[:slot % 3])
            self.assertEqual((house.loaded(slot, 0), house.loaded(slot, TOP)), (0, 0))
            self.check_papers(house)
        self.assertEqual(house.till(), 0)
        self.assertEqual(house.plain(2), [0, 12, 22, 2, 0, 1, 29, 0, 0])
        self.assertEqual(house.plain(3), [0, 13, 23, 0, 0])

    def test_names_of_the_arguments(self):
        house = House()
        house.admit(slot=4, coin=5, purse=60, program=[("word",), ("give",)])
        self.assertEqual(house.send(sender=4, to=4, coin=0, limit=30, word=9)[:4], ("well", 9, 12, 12))
        self.assertEqual(house.tried(sender=4, to=4, coin=0, limit=30, word=8)[:4], ("well", 8, 12, 12))
        self.assertEqual(house.loaded(slot=4, place=1), 0)

    def test_no_slot(self):
        house = small_house()
        for slot in NO_SLOTS:
            self.refused(NoSlot, house, lambda: house.admit(slot, 1, 1, []))

    def test_taken(self):
        house = small_house()
        for slot in (0, 1, 2):
            self.refused(Taken, house, lambda: house.admit(slot, 1, 1, []))

    def test_no_number(self):
        house = small_house()
        for whole in NO_NUMBERS:
            self.refused(NoNumber, house, lambda: house.admit(5, whole, 1, []))
            self.refused(NoNumber, house, lambda: house.admit(5, 1, whole, []))

    def test_no_code(self):
        house = small_house()
        for program in BAD_PROGRAMS:
            self.refused(NoCode, house, lambda: house.admit(5, 1, 1, program))
        house.admit(5, 1, 1, [("me",)] * 59 + [("jump", 60)])
        self.assertEqual(len(house.program_of(5)), 60)

    def test_too_much_coin(self):
        house = small_house()
        self.refused(TooMuch, house, lambda: house.admit(5, TOP, 0, []))
        self.refused(TooMuch, house, lambda: house.admit(5, WIDE - 150, 0, []))
        house.admit(5, WIDE - 151, 0, [])
        self.refused(TooMuch, house, lambda: house.admit(6, 1, 0, []))
        house.admit(6, 0, 0, [])
        house = House()
        house.admit(0, TOP, TOP, [])
        self.refused(TooMuch, house, lambda: house.admit(1, 1, 0, []))
        self.refused(TooMuch, house, lambda: house.admit(1, 0, 1, []))
        house.admit(1, 0, 0, [])

    def test_too_much_in_purses_with_the_till(self):
        house = small_house()
        house.send(0, 2, 0, 100)
        self.assertEqual((house.till(), house.purse_of(0)), (10, 5990))
        self.refused(TooMuch, house, lambda: house.admit(5, 0, TOP, []))
        self.refused(TooMuch, house, lambda: house.admit(5, 0, WIDE - 6010, []))
        house.admit(5, 0, WIDE - 6011, [])
        self.refused(TooMuch, house, lambda: house.admit(6, 0, 1, []))
        house.admit(6, 1, 0, [])

    def test_coin_and_purses_are_not_added_together(self):
        house = House()
        house.admit(0, 2 ** 63, 2 ** 63, [])
        house.admit(1, 2 ** 63 - 1, 2 ** 63 - 1, [])
        self.assertEqual(house.coin_of(0) + house.coin_of(1), TOP)

    def test_the_first_refusal_in_the_order_told_goes(self):
        slots = ((5, None), (16, NoSlot), (-1, NoSlot), (0, Taken))
        numbers = (((1, 1), None), ((WIDE, 1), NoNumber), ((1, -1), NoNumber), ((TOP, 1), TooMuch), ((1, TOP), TooMuch))
        programs = (([], None), ([("none",)], NoCode))
        order = (NoSlot, Taken, NoNumber, NoCode, TooMuch)
        for (slot, one), ((coin, purse), two), (program, three) in itertools.product(slots, numbers, programs):
            due = [kind for kind in order if kind in (one, two, three)]
            with self.subTest(slot=slot, coin=coin, purse=purse, program=program):
                house = small_house()
                if due:
                    self.refused(due[0], house, lambda: house.admit(slot, coin, purse, program))
                else:
                    house.admit(slot, coin, purse, program)

    def test_a_refused_account_may_come_later(self):
        house = House()
        self.refused(NoCode, house, lambda: house.admit(0, 1, 1, [("none",)]))
        house.admit(0, 1, 1, [])
        self.assertEqual(house.coin_of(0), 1)

    def test_the_program_is_kept_as_a_copy(self):
        house = House()
        program = [("push", 1), ("give",)]
        house.admit(0, 10, 1000, program)
        ahead = state(house)
        program[0] = ("push", 2)
        program.append(("me",))
        self.assertEqual(state(house), ahead)
        self.assertEqual(house.send(0, 0, 0, 100)[1], 1)
        told = house.program_of(0)
        told.clear()
        self.assertEqual(house.program_of(0), [("push", 1), ("give",)])


class Letters(HouseCase):
    def test_a_letter_to_no_rows(self):
        house = small_house()
        told = house.send(0, 2, 30, 100, 7)
        tree = ("call", 2, 2, 0, 30, 7, 90, "well", 0, 0, [("move", 0, 2, 30)])
        self.assertEqual(told, ("well", 0, 10, 10, tree, [("move", 0, 2, 30)]))
        self.assertEqual([type(part) for part in told], [str, int, int, int, tuple, list])
        self.assertEqual((house.coin_of(0), house.coin_of(2)), (70, 30))
        self.assertEqual((house.count_of(0), house.purse_of(0), house.till()), (1, 5990, 10))
        self.assertEqual((house.count_of(2), house.purse_of(2)), (0, 0))
        self.check_papers(house)

    def test_the_word_left_out_is_nought(self):
        house = House()
        house.admit(0, 10, 1000, [("word",), ("give",)])
        self.assertEqual(house.send(0, 0, 0, 100)[4][5], 0)
        self.assertEqual(house.tried(0, 0, 0, 100)[4][5], 0)
        self.assertEqual(house.send(0, 0, 0, 100, TOP)[1], TOP)

    def test_the_limit_less_ten_is_given(self):
        house = House()
        house.admit(0, 10, 10000, [("jump", 0)])
        for limit in (10, 11, 12, 500, 4999, 5000):
            told = house.tried(0, 0, 0, limit)
            self.assertEqual((told[0], told[2], told[3], told[4][6]), ("dry", limit, limit, limit - 10))

    def test_the_count_grows_with_each_letter_that_is_not_refused(self):
        house = House()
        house.admit(0, 10, 1000, [("word",), ("fail",)])
        for count in range(1, 6):
            self.assertEqual(house.send(0, 0, 0, 50, 3)[:2], ("fail", 3))
            self.assertEqual(house.count_of(0), count)
            self.assertEqual(house.purse_of(0), 1000 - 12 * count)
            self.refused(NoLimit, house, lambda: house.send(0, 0, 0, 9))

    def test_a_letter_that_ends_badly_is_paid_and_undone(self):
        house = House()
        house.admit(0, 10, 1000, [])
        house.admit(1, 0, 0, read("push 1; push 2; save; push 3; note; push 4; fail"))
        told = house.send(0, 1, 10, 100)
        self.assertEqual(told[:4] + (told[5],), ("fail", 4, 31, 31, []))
        self.assertEqual((house.coin_of(0), house.coin_of(1), house.loaded(1, 1)), (10, 0, 0))
        self.assertEqual((house.count_of(0), house.purse_of(0), house.till()), (1, 969, 31))
        self.check_papers(house)

    def test_each_refusal_at_its_edges(self):
        house = small_house()
        for whole in NO_NUMBERS:
            self.refused(NoNumber, house, lambda: house.send(0, 2, whole, 100))
            self.refused(NoNumber, house, lambda: house.send(0, 2, 0, 100, whole))
        for slot in NO_SLOTS + (3, 15):
            self.refused(NoAccount, house, lambda: house.send(slot, 2, 0, 100))
            self.refused(NoAccount, house, lambda: house.send(0, slot, 0, 100))
        for limit in (-1, 0, 1, 9, 5001, 5002, 6000, WIDE, GREAT, -GREAT):
            self.refused(NoLimit, house, lambda: house.send(0, 2, 0, limit))
        self.refused(PoorPurse, house, lambda: house.send(1, 2, 0, 11))
        self.refused(PoorPurse, house, lambda: house.send(2, 2, 0, 10))
        self.refused(PoorCoin, house, lambda: house.send(0, 2, 101, 100))
        self.refused(PoorCoin, house, lambda: house.send(0, 0, 101, 100))
        self.refused(PoorCoin, house, lambda: house.send(0, 2, TOP, 100))
        self.assertEqual(house.send(1, 2, 0, 10)[0], "well")
        self.assertEqual(house.send(0, 2, 100, 5000)[0], "well")

    # Of each thing a right value and wrong ones; the first refusal that is due goes.
    def test_the_first_refusal_in_the_order_told_goes(self):
        words = ((0, []), (WIDE, [NoNumber]))
        senders = ((0, []), (1, []), (9, [NoAccount]), (-1, [NoAccount]))
        tos = ((2, []), (3, [NoAccount]), (16, [NoAccount]))
        limits = (9, 10, 11, 5000, 5001)
        coins = (0, 51, 101, -1)
        order = (NoNumber, NoAccount, NoLimit, PoorPurse, PoorCoin)
        purses, coin_there = {0: 6000, 1: 10}, {0: 100, 1: 50}
        for (word, one), (sender, two), (to, three), limit, coin in itertools.product(words, senders, tos, limits, coins):
            due = one + two + three
            if coin < 0:
                due = due + [NoNumber]
            if not 10 <= limit <= 5000:
                due = due + [NoLimit]
            if sender in purses and purses[sender] < limit:
                due = due + [PoorPurse]
            if sender in purses and coin_there[sender] < coin:
                due = due + [PoorCoin]
            first = [kind for kind in order if kind in due]
            house = small_house()
            with self.subTest(word=word, sender=sender, to=to, limit=limit, coin=coin):
                if first:
                    self.refused(first[0], house, lambda: house.tried(sender, to, coin, limit, word))
                    self.refused(first[0], house, lambda: house.send(sender, to, coin, limit, word))
                else:
                    self.assertEqual(house.tried(sender, to, coin, limit, word), house.send(sender, to, coin, limit, word))

    def test_the_till_and_the_purse(self):
        house = small_house()
        paid = [house.send(0, 2, 0, 100)[3] for turn in range(5)]
        self.assertEqual((paid, house.till(), house.purse_of(0)), ([10] * 5, 50, 5950))

    def test_the_purse_pays_not_the_limit_but_what_is_used(self):
        house = House()
        house.admit(0, 0, 20, [("push", 1), ("give",)])
        self.assertEqual(house.send(0, 0, 0, 20)[:4], ("well", 1, 12, 12))
        self.assertEqual(house.purse_of(0), 8)
        self.refused(PoorPurse, house, lambda: house.send(0, 0, 0, 10))


class Sparing(HouseCase):
    def house(self, many):
        house = House()
        house.admit(0, 100, 50000, [])
        house.admit(1, 50, 10, read("; ".join(f"push {place}; word; save" for place in range(many))))
        return house

    def test_what_is_spared_is_at_most_half_without_rest(self):
        for many in range(21):
            house = self.house(many)
            self.assertEqual(house.send(0, 1, 0, 1000, 5)[2:4], (10 + 14 * many,) * 2)
            used = 10 + 7 * many
            told = house.send(0, 1, 0, 1000, 0)
            self.assertEqual(told[2], used)
            self.assertEqual(told[3], max(used - 4 * many, used - used // 2))
            self.assertEqual(house.purse_of(0), 50000 - 10 - 14 * many - told[3])
            self.assertEqual(house.till(), 10 + 14 * many + told[3])
            self.check_papers(house)
        self.assertEqual([(10 + 7 * many) // 2 < 4 * many for many in (10, 11)], [False, True])

    def test_by_hand(self):
        house = self.house(11)
        house.send(0, 1, 0, 1000, 5)
        self.assertEqual(house.send(0, 1, 0, 1000, 0)[:4], ("well", 0, 87, 44))
        house = self.house(1)
        house.send(0, 1, 0, 1000, 5)
        self.assertEqual(house.send(0, 1, 0, 1000, 5)[:4], ("well", 0, 17, 17))
        self.assertEqual(house.send(0, 1, 0, 1000, 0)[:4], ("well", 0, 17, 13))
        self.assertEqual(house.send(0, 1, 0, 1000, 0)[:4], ("well", 0, 17, 17))

    def test_only_deeds_that_stand_are_worth_something(self):
        house = House()
        house.admit(0, 0, 9000, [])
        house.admit(1, 0, 0, read("push 1; word; save; word; jumpif 7; push 9; fail"))
        house.admit(2, 0, 0, read("push 1; push 0; push 100; word; call; push 1; push 1; save; push 1; push 0; save"))
        self.assertEqual(house.send(0, 1, 0, 100, 5)[:4], ("well", 0, 26, 26))
        self.assertEqual(house.send(0, 1, 0, 100, 0)[:4], ("fail", 9, 21, 21))
        told = house.send(0, 2, 0, 200, 0)
        self.assertEqual(told[5], [("save", 2, 1, 0, 1), ("save", 2, 1, 1, 0)])
        self.assertEqual(told[:4], ("well", 0, 10 + 4 + 8 + 11 + 2 + 12 + 2 + 5, 10 + 4 + 8 + 11 + 2 + 12 + 2 + 5 - 4))
        self.assertEqual(house.loaded(1, 1), 5)


class Trying(HouseCase):
    def test_tried_tells_the_same_as_sent_and_changes_nothing(self):
        house = small_house()
        house.admit(3, 5, 500, read("push 1; push 2; push 300; push 4; call; push 2; push 1; push 9; push 0; call; word; fail"))
        house.admit(4, 5, 500, read("push 3; push 0; push 600; word; call; push 7; note; push 1; give"))
        letters = ((0, 1, 5, 500, 5), (0, 1, 0, 500, 0), (0, 3, 2, 700, 4), (0, 4, 2, 900, 4), (3, 1, 1, 30, 9), (0, 4, 1, 60, 2))
        for letter in letters:
            ahead = state(house)
            accounts = list(house.rooms)
            first = house.tried(*letter)
            self.assertEqual(state(house), ahead)
            self.assertEqual(house.tried(*letter), first)
            self.assertEqual(house.send(*letter), first)
            self.assertNotEqual(state(house), ahead)
            self.assertTrue(all(now is then for now, then in zip(house.rooms, accounts)))
            self.check_papers(house)


class Telling(HouseCase):
    def test_what_is_told_is_the_askers_own(self):
        house = small_house()
        told = house.send(0, 1, 5, 500, 5)
        lists = [house.plain(1), house.program_of(1), house.paper(1)]
        kept = repr((told, lists))
        house.send(0, 1, 5, 500, 6)
        house.tried(0, 1, 5, 500, 7)
        self.assertEqual(repr((told, lists)), kept)
        ahead = state(house)
        told[4][10].clear()
        told[5].append(("deed",))
        lists[0].clear()
        lists[1].append(("fail",))
        lists[2][1].append(5)
        lists[2][2][0] = 0
        house.plain(0).append(3)
        house.paper(0)[1].clear()
        house.paper(0)[2].clear()
        house.program_of(1).clear()
        house.tried(0, 1, 5, 500, 7)[5].clear()
        self.assertEqual(state(house), ahead)
        self.check_papers(house)


class Stamping(HouseCase):
    def test_behind_each_letter(self):
        house = small_house()
        house.admit(15, 9, 900, read("push 1; push 2; push 200; word; call; push 4; word; save"))
        tops = [house.top()]
        for letter in ((0, 1, 5, 500, 5), (15, 15, 0, 500, 6), (15, 2, 7, 20, 0), (0, 15, 5, 400, 0), (0, 15, 5, 40, 0)):
            house.send(*letter)
            self.check_papers(house)
            tops.append(house.top())
        self.assertEqual(len(set(tops)), len(tops))

    def test_a_paper_ahead_does_not_hold_behind(self):
        house = small_house()
        papers = [house.paper(slot) for slot in range(16)]
        top = house.top()
        house.send(0, 2, 1, 50)
        for paper in papers:
            self.assertTrue(holds(paper, top))
            self.assertFalse(holds(paper, house.top()))

    def test_the_till_stands_in_no_paper(self):
        one, other = House(), House()
        one.admit(0, 0, 90, [])
        other.admit(0, 0, 100, [])
        other.send(0, 0, 0, 10)
        self.assertEqual((one.purse_of(0), other.purse_of(0), one.till(), other.till()), (90, 90, 0, 10))
        self.assertEqual(one.plain(0)[1:], other.plain(0)[1:])
        one.admit(1, 0, 80, [])
        other.admit(1, 0, 80, [])
        self.assertEqual(one.plain(1), other.plain(1))

    def test_two_roads_to_the_same_accounts(self):
        saver = read("push 3; word; save")
        one = House()
        one.admit(0, 100, 1000, [])
        one.admit(1, 100, 1000, saver)
        one.admit(9, 100, 1000, saver)
        one.send(0, 1, 10, 100, 5)
        one.send(1, 9, 20, 100, 7)
        other = House()
        other.admit(9, 100, 1000, saver)
        other.admit(1, 100, 1000, saver)
        other.admit(0, 100, 1000, [])
        other.send(1, 9, 20, 100, 7)
        other.send(0, 1, 10, 100, 5)
        self.assertEqual(state(one), state(other))
        self.assertEqual(one.top(), other.top())

    def test_what_is_saved_and_cleared_leaves_no_trace_but_the_price(self):
        program = read("push 3; push 4; save; push 3; push 0; save")
        one, other = House(), House()
        one.admit(0, 5, 1000, program)
        other.admit(0, 5, 973, program)
        self.assertEqual(one.send(0, 0, 0, 200)[:4], ("well", 0, 31, 27))
        self.assertEqual(one.plain(0), [1] + other.plain(0)[1:])


if __name__ == "__main__":
    unittest.main()
