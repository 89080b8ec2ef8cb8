"""Points 17 to 22: calls, what rows do, calls within calls, how they end, what is undone,
the tree, and what is barred within a look."""

import unittest

from meterhouse.accounts import Account
from meterhouse.codes import read
from meterhouse.deeds import Note
from meterhouse.journal import Journal
from meterhouse.machine import enter

WIDE = 2 ** 64
TOP = WIDE - 1

KIND, WHO, WHOSE, CALLER, COIN, WORD, GIVEN, END, ANSWER, USED, STEPS = range(11)


# Texts of programs by slot, each account with 100 coin; slot 0 calls and is there in any case.
def rooms_of(programs, coins=None):
    rooms = [None] * 16
    for slot, text in list({0: "", **programs}.items()):
        rooms[slot] = Account((coins or {}).get(slot, 100), 50, read(text))
    return rooms


def plains(rooms):
    return [None if account is None else account.plain() for account in rooms]


def ran(programs, given=5000, coin=0, word=0, who=1, caller=0, coins=None):
    rooms = rooms_of(programs, coins)
    journal = Journal(rooms)
    tree = enter(rooms, journal, caller, who, coin, word, given)
    return tree, journal, rooms


def tree_of(programs, **more):
    return ran(programs, **more)[0]


def row_steps(tree):
    return [step for step in tree[STEPS] if type(step) is int]


def deed_steps(tree):
    return [step for step in tree[STEPS] if type(step) is tuple and step[0] in ("save", "move", "note")]


def call_steps(tree):
    return [step for step in tree[STEPS] if type(step) is tuple and step[0] in ("call", "borrow", "look")]


def joined(*parts):
    return "; ".join(part for part in parts if part)


def pushes(numbers):
    return "; ".join(f"push {number}" for number in numbers)


# Notes lay bare what is on the stack, from the top down, until it is empty.
def bared(text):
    return joined(text, *["note"] * 25)


def stack_behind(tree, who=1):
    notes = [step for step in deed_steps(tree) if step[0] == "note"]
    assert tree[END] == "short" and all(step[1] == who for step in notes)
    return [step[2] for step in notes][::-1]


# What is on the stack ahead, the row, what is there behind, the price.
ROWS = (
    ([], "push 7", [7], 1),
    ([], "push 0", [0], 1),
    ([], f"push {TOP}", [TOP], 1),
    ([4], "push 7", [4, 7], 1),
    ([4, 5], "drop", [4], 1),
    ([4, 5, 6], "copy 0", [4, 5, 6, 6], 1),
    ([4, 5, 6], "copy 1", [4, 5, 6, 5], 1),
    ([4, 5, 6], "copy 2", [4, 5, 6, 4], 1),
    (list(range(16)), "copy 15", list(range(16)) + [0], 1),
    ([4, 5, 6], "swap 1", [4, 6, 5], 1),
    ([4, 5, 6], "swap 2", [6, 5, 4], 1),
    ([3, 4, 5, 6], "swap 2", [3, 6, 5, 4], 1),
    (list(range(17)), "swap 15", [0, 16] + list(range(2, 16)) + [1], 1),
    ([9, 7, 3], "add", [9, 10], 1),
    ([TOP, 3], "add", [2], 1),
    ([9, 7, 3], "minus", [9, 4], 1),
    ([3, 7], "minus", [WIDE - 4], 1),
    ([9, 7, 3], "times", [9, 21], 2),
    ([TOP, TOP], "times", [1], 2),
    ([9, 7, 3], "over", [9, 2], 2),
    ([7, 0], "over", [0], 2),
    ([9, 7, 3], "rest", [9, 1], 2),
    ([7, 0], "rest", [0], 2),
    ([9, 7, 3], "below", [9, 0], 1),
    ([9, 3, 7], "below", [9, 1], 1),
    ([9, 7, 3], "same", [9, 0], 1),
    ([9, 3, 3], "same", [9, 1], 1),
    ([9, 12, 10], "both", [9, 8], 1),
    ([9, 12, 10], "either", [9, 14], 1),
    ([9, 12, 10], "unlike", [9, 6], 1),
    ([9, 3, 4], "up", [9, 48], 1),
    ([9, 48, 4], "down", [9, 3], 1),
    ([9, 48, 64], "down", [9, 0], 1),
    ([], "jump 1", [], 1),
    ([9, 0], "jumpif 0", [9], 1),
    ([9, 6], "load", [9, 0], 3),
    ([9], "me", [9, 1], 1),
    ([9], "from", [9, 0], 1),
    ([9], "sent", [9, 3], 1),
    ([9], "word", [9, 8], 1),
    ([9, 0], "coin", [9, 97], 3),
    ([9, 1], "coin", [9, 103], 3),
    ([9, 5], "coin", [9, 0], 3),
    ([9, 16], "coin", [9, 0], 3),
    ([9, TOP], "coin", [9, 0], 3),
)


class PlainRows(unittest.TestCase):
    def test_stack_price_and_step_of_each_row(self):
        for ahead, row, behind, price in ROWS:
            text = bared(joined(pushes(ahead), row))
            with self.subTest(ahead=ahead, row=row):
                tree = tree_of({1: text}, coin=3, word=8)
                self.assertEqual(stack_behind(tree), behind)
                self.assertEqual(tree[USED], len(ahead) + price + 4 * len(behind))
                wanted = [("move", 0, 1, 3)] + list(range(len(ahead) + 1))
                for k, number in enumerate(behind[::-1]):
                    wanted += [len(ahead) + 1 + k, ("note", 1, number)]
                self.assertEqual(tree[STEPS], wanted)
                self.assertEqual(tree, ("call", 1, 1, 0, 3, 8, 5000, "short", 0, tree[USED], wanted))

    def test_jump_goes_on_there(self):
        tree = tree_of({1: "jump 2; fail; push 5; jump 5; fail; give"})
        self.assertEqual(tree, ("call", 1, 1, 0, 0, 0, 5000, "well", 5, 4, [0, 2, 3, 5]))
        self.assertEqual(tree_of({1: "jump 1"})[END:], ("well", 0, 1, [0]))

    def test_jumpif_goes_on_there_but_at_nought(self):
        for number, rows, answer in ((0, [0, 1, 2, 3], 6), (1, [0, 1, 4, 5], 7), (TOP, [0, 1, 4, 5], 7)):
            tree = tree_of({1: f"push {number}; jumpif 4; push 6; give; push 7; give"})
            self.assertEqual(tree[END:], ("well", answer, 4, rows))

    def test_a_loop(self):
        tree = tree_of({1: "push 3; push 1; minus; copy 0; jumpif 1; push 9; give"})
        self.assertEqual(tree[END:], ("well", 9, 1 + 3 * 4 + 2, [0] + [1, 2, 3, 4] * 3 + [5, 6]))

    def test_save_and_load(self):
        tree, journal, rooms = ran({1: "push 6; push 9; save; push 6; load; push 5; load; add; give"})
        self.assertEqual(tree[END:], ("well", 9, 1 + 1 + 12 + 1 + 3 + 1 + 3 + 1 + 1, [
            0, 1, 2, ("save", 1, 6, 0, 9), 3, 4, 5, 6, 7, 8,
        ]))
        self.assertEqual(journal.told(), [("save", 1, 6, 0, 9)])
        self.assertEqual((rooms[1].loaded(6), rooms[1].loaded(9), rooms[0].loaded(6)), (9, 0, 0))

    def test_prices_of_saves(self):
        tree, journal, rooms = ran({1: "; ".join(f"push {TOP}; push {new}; save" for new in (0, 5, 5, 7, 0, 0, 1))})
        self.assertEqual(deed_steps(tree), [
            ("save", 1, TOP, old, new) for old, new in ((0, 0), (0, 5), (5, 5), (5, 7), (7, 0), (0, 0), (0, 1))
        ])
        self.assertEqual(tree[END:USED + 1], ("well", 0, 14 + 5 + 12 + 5 + 5 + 5 + 5 + 12))
        self.assertEqual(journal.worth(), 4)

    def test_note(self):
        tree, journal, rooms = ran({1: f"push {TOP}; note; push 0; note"})
        self.assertEqual(tree[END:], ("well", 0, 10, [0, 1, ("note", 1, TOP), 2, 3, ("note", 1, 0)]))
        self.assertEqual(journal.told(), [("note", 1, TOP), ("note", 1, 0)])

    def test_give_and_fail(self):
        self.assertEqual(tree_of({1: "push 4; push 5; give; fail"})[END:], ("well", 5, 3, [0, 1, 2]))
        self.assertEqual(tree_of({1: "push 4; push 5; fail; give"})[END:], ("fail", 5, 3, [0, 1, 2]))
        self.assertEqual(tree_of({1: f"push {TOP}; give"})[ANSWER], TOP)
        self.assertEqual(tree_of({1: "push 0; fail"})[END:], ("fail", 0, 2, [0, 1]))

    def test_coin_tells_what_moved(self):
        for slot, wanted in ((0, 60), (1, 140), (2, 100)):
            self.assertEqual(tree_of({1: f"push {slot}; coin; give", 2: ""}, coin=40)[ANSWER], wanted)


class Ends(unittest.TestCase):
    def check(self, text, end, used, steps, **more):
        tree = tree_of({1: text}, **more)
        self.assertEqual(tree[END:], (end, 0, used, steps))

    def test_well_at_the_last_row(self):
        self.check("", "well", 0, [])
        self.check("", "well", 0, [], given=0)
        self.check("push 7", "well", 1, [0])
        self.check("push 7", "well", 1, [0], given=1)

    def test_short_of_each_row(self):
        many = {
            "drop": 1, "jumpif 0": 1, "note": 1, "give": 1, "fail": 1, "copy 0": 1, "copy 15": 16, "swap 1": 2,
            "swap 15": 16, "load": 1, "coin": 1, "save": 2, "call": 4, "borrow": 3, "look": 3,
        }
        for word in "add minus times over rest below same both either unlike up down".split():
            many[word] = 2
        for row, count in many.items():
            with self.subTest(row=row):
                self.check(joined(pushes([0] * (count - 1)), row), "short", count - 1, list(range(count - 1)))
                tree = tree_of({1: joined(pushes([0] * count), row)}, given=count + 40)
                self.assertNotIn(tree[END], ("short", "full"))

    def test_full_behind_twenty_four(self):
        numbers = pushes(range(24))
        for row in ("push 0", "me", "from", "sent", "word", "copy 0", "copy 15"):
            with self.subTest(row=row):
                self.check(joined(numbers, row), "full", 24, list(range(24)))
                self.check(joined(pushes(range(23)), row), "well", 24, list(range(24)))
        for row in ("drop", "swap 15", "add", "load", "coin", "jump 25", "note", "save", "call", "borrow", "look"):
            with self.subTest(row=row):
                tree = tree_of({1: joined(numbers, row)})
                self.assertEqual((tree[END], row_steps(tree)), ("well", list(range(25))))

    def test_dry_at_the_price_of_each_row(self):
        prices = (
            ([], "push 1", 1), ([1], "drop", 1), ([1], "copy 0", 1), ([1, 2], "swap 1", 1), ([1, 2], "add", 1),
            ([1, 2], "minus", 1), ([1, 2], "times", 2), ([1, 2], "over", 2), ([1, 2], "rest", 2), ([1, 2], "below", 1),
            ([1, 2], "same", 1), ([1, 2], "both", 1), ([1, 2], "either", 1), ([1, 2], "unlike", 1), ([1, 2], "up", 1),
            ([1, 2], "down", 1), ([], "jump 1", 1), ([0], "jumpif 0", 1), ([1], "load", 3), ([1, 2], "save", 12),
            ([1, 0], "save", 5), ([], "me", 1), ([], "from", 1), ([], "sent", 1), ([], "word", 1), ([1], "coin", 3),
            ([1], "note", 4), ([1, 0, 0, 0], "call", 8), ([1, 1, 0, 0], "call", 12), ([1, 0, 0], "borrow", 6),
            ([1, 0, 0], "look", 6), ([1], "give", 1),
        )
        for ahead, row, price in prices:
            text = joined(pushes(ahead), row)
            with self.subTest(ahead=ahead, row=row):
                self.check(text, "dry", len(ahead), list(range(len(ahead))), given=len(ahead) + price - 1)
                tree = tree_of({1: text}, given=len(ahead) + price)
                self.assertEqual((tree[END], tree[USED]), ("well", len(ahead) + price))
        self.assertEqual(tree_of({1: "push 1; fail"}, given=1)[END:], ("dry", 0, 1, [0]))

    def test_short_goes_ahead_of_dry(self):
        self.check("drop", "short", 0, [], given=0)
        self.check("push 1; add", "short", 1, [0], given=1)
        self.check("push 1; save", "short", 1, [0], given=1)
        self.check("push 1; push 1; push 1; call", "short", 3, [0, 1, 2], given=3)

    def test_full_goes_ahead_of_dry(self):
        self.check(joined(pushes(range(24)), "me"), "full", 24, list(range(24)), given=24)

    def test_well_at_the_last_row_goes_ahead_of_dry(self):
        self.check("push 1; push 2", "well", 2, [0, 1], given=2)

    def test_short_goes_ahead_of_barred(self):
        for text, count in (("note", 0), ("push 1; save", 1), ("push 1; push 1; push 1; call", 3)):
            tree = tree_of({1: "push 2; push 100; push 0; look", 2: text})
            self.assertEqual(call_steps(tree)[0][END:], ("short", 0, count, list(range(count))))

    def test_barred_goes_ahead_of_dry(self):
        for text, count in (("push 1; note", 1), ("push 1; push 1; save", 2), ("push 1; push 1; push 0; push 0; call", 4)):
            tree = tree_of({1: f"push 2; push {count}; push 0; look", 2: text})
            self.assertEqual(call_steps(tree)[0][END:], ("barred", 0, count, list(range(count))))

    def test_a_bad_end_of_a_loop_that_goes_on(self):
        tree = tree_of({1: "jump 0"}, given=4990)
        self.assertEqual(tree[END:], ("dry", 0, 4990, [0] * 4990))


ASKING = "me; from; sent; word; push 100; times; add; push 100; times; add; push 100; times; add; give"


class OtherCalls(unittest.TestCase):
    # Answers me + 100 * from + 10000 * sent + 1000000 * word.
    def answer(self, me, caller, sent, word):
        return me + 100 * caller + 10000 * sent + 1000000 * word

    def test_call(self):
        tree = tree_of({1: "push 2; push 30; push 500; push 4; call; give", 2: ASKING}, coin=7, word=9)
        other = call_steps(tree)[0]
        self.assertEqual(other[:GIVEN + 1], ("call", 2, 2, 1, 30, 4, 500))
        self.assertEqual((other[END], other[ANSWER], other[USED]), ("well", self.answer(2, 1, 30, 4), 17))
        self.assertEqual(other[STEPS], [("move", 1, 2, 30)] + list(range(14)))
        self.assertEqual(tree[STEPS], [("move", 0, 1, 7), 0, 1, 2, 3, 4, other, 5])
        self.assertEqual((tree[END], tree[ANSWER], tree[USED]), ("well", 1, 4 + 12 + 17 + 1))

    def test_call_without_coin(self):
        tree = tree_of({1: "push 2; push 0; push 500; push 4; call; drop; give", 2: ASKING}, coin=7)
        other = call_steps(tree)[0]
        self.assertEqual(other[:GIVEN + 1], ("call", 2, 2, 1, 0, 4, 500))
        self.assertEqual(other[STEPS], list(range(14)))
        self.assertEqual(tree[ANSWER], self.answer(2, 1, 0, 4))
        self.assertEqual(tree[USED], 4 + 8 + 17 + 2)

    def test_borrow(self):
        tree = tree_of({1: "push 2; push 500; push 4; borrow; drop; give", 2: ASKING}, coin=7, word=9)
        other = call_steps(tree)[0]
        self.assertEqual(other[:GIVEN + 1], ("borrow", 1, 2, 0, 7, 4, 500))
        self.assertEqual(other[STEPS], list(range(14)))
        self.assertEqual(tree[ANSWER], self.answer(1, 0, 7, 4))
        self.assertEqual(tree[USED], 3 + 6 + 17 + 2)

    def test_look(self):
        tree = tree_of({1: "push 2; push 500; push 4; look; drop; give", 2: ASKING}, coin=7, word=9)
        other = call_steps(tree)[0]
        self.assertEqual(other[:GIVEN + 1], ("look", 2, 2, 1, 0, 4, 500))
        self.assertEqual(other[STEPS], list(range(14)))
        self.assertEqual(tree[ANSWER], self.answer(2, 1, 0, 4))
        self.assertEqual(tree[USED], 3 + 6 + 17 + 2)

    def test_saves_loads_and_notes_go_where_the_call_is_done(self):
        touching = "push 5; push 5; load; push 1; add; save; push 8; note"
        for row, slot in (("push 2; push 0; push 500; push 0; call", 2), ("push 2; push 500; push 0; borrow", 1)):
            tree, journal, rooms = ran({1: row, 2: touching})
            self.assertEqual(journal.told(), [("save", slot, 5, 0, 1), ("note", slot, 8)])
            self.assertEqual([rooms[k].loaded(5) for k in (0, 1, 2)], [int(k == slot) for k in (0, 1, 2)])

    def test_a_look_reads_where_it_is_done(self):
        self.assertEqual(tree_of({
            1: "push 5; push 3; save; push 2; push 0; push 500; push 0; call; push 2; push 500; push 1; look; drop; give",
            2: "word; jumpif 6; push 5; push 4; save; jump 9; push 5; load; give",
        })[ANSWER], 4)

    def test_a_borrow_within_a_borrow(self):
        tree = tree_of({1: "push 2; push 900; push 4; borrow; drop; give", 2: "push 3; push 500; push 6; borrow; drop; give",
                        3: ASKING}, coin=7, caller=0)
        self.assertEqual(call_steps(call_steps(tree)[0])[0][:GIVEN + 1], ("borrow", 1, 3, 0, 7, 6, 500))
        self.assertEqual(tree[ANSWER], self.answer(1, 0, 7, 6))

    def test_a_call_within_a_borrow_is_made_by_who(self):
        tree, journal, rooms = ran({1: "push 2; push 900; push 4; borrow", 2: "push 3; push 5; push 500; push 6; call",
                                    3: ASKING}, coin=7)
        other = call_steps(call_steps(tree)[0])[0]
        self.assertEqual(other[:GIVEN + 1], ("call", 3, 3, 1, 5, 6, 500))
        self.assertEqual(other[ANSWER], self.answer(3, 1, 5, 6))
        self.assertEqual(journal.told(), [("move", 0, 1, 7), ("move", 1, 3, 5)])
        self.assertEqual([rooms[k].coin for k in range(4)], [93, 102, 100, 105])

    def test_a_borrow_within_a_call_has_that_calls_coin(self):
        tree = tree_of({1: "push 2; push 5; push 900; push 4; call", 2: "push 3; push 500; push 6; borrow", 3: ASKING}, coin=7)
        other = call_steps(call_steps(tree)[0])[0]
        self.assertEqual(other[:GIVEN + 1], ("borrow", 2, 3, 1, 5, 6, 500))
        self.assertEqual(other[ANSWER], self.answer(2, 1, 5, 6))
        self.assertEqual(deed_steps(other), [])

    def test_a_call_of_itself(self):
        tree, journal, rooms = ran({1: "word; jumpif 8; me; push 40; push 500; push 1; call; give; sent; give"})
        self.assertEqual(call_steps(tree)[0][:ANSWER + 1], ("call", 1, 1, 1, 40, 1, 500, "well", 40))
        self.assertEqual((journal.told(), rooms[1].coin), ([("move", 1, 1, 40)], 100))

    def test_all_the_coin_may_go_along(self):
        tree, journal, rooms = ran({1: "push 2; push 107; push 500; push 0; call", 2: ""}, coin=7)
        self.assertEqual([rooms[k].coin for k in range(3)], [93, 0, 207])

    def test_answer_and_end_on_the_stack(self):
        for other, answer, well in (
            ("push 6; give", 6, 1), ("push 6; fail", 6, 0), ("", 0, 1), ("push 0; give", 0, 1), ("drop", 0, 0),
            ("jump 0", 0, 0), (joined(pushes(range(25))), 0, 0), ("push 6; push 1", 0, 1),
        ):
            for row in ("push 2; push 0; push 80; push 0; call", "push 2; push 80; push 0; borrow",
                        "push 2; push 80; push 0; look"):
                with self.subTest(other=other[:20], row=row):
                    self.assertEqual(stack_behind(tree_of({1: bared("push 33; " + row), 2: other})), [33, answer, well])

    def test_given_is_what_is_asked_or_what_is_left(self):
        rows = (("push 2; push 0; push {}; push 0; call", 12), ("push 2; push 1; push {}; push 0; call", 16),
                ("push 2; push {}; push 0; borrow", 9), ("push 2; push {}; push 0; look", 9))
        for row, own in rows:
            for asks, given, wanted in ((0, 100, 0), (1, 100, 1), (50, 100, 50), (99 - own, 100, 99 - own),
                                        (100 - own, 100, 100 - own), (101 - own, 100, 100 - own), (TOP, 100, 100 - own),
                                        (TOP, own, 0), (TOP, own + 1, 1), (5, own, 0)):
                with self.subTest(row=row, asks=asks, given=given):
                    tree = tree_of({1: row.format(asks), 2: "jump 0"}, given=given)
                    other = call_steps(tree)[0]
                    self.assertEqual((other[GIVEN], other[USED], other[END]), (wanted, wanted, "dry"))
                    self.assertEqual((tree[USED], tree[END]), (own + wanted, "well"))

    def test_what_was_used_is_used_here_too(self):
        tree = tree_of({1: "push 2; push 50; push 0; look; push 1; push 2", 2: "jump 0"}, given=60)
        self.assertEqual((tree[END], tree[USED], row_steps(tree)), ("dry", 60, [0, 1, 2, 3, 4]))
        self.assertEqual(call_steps(tree)[0][USED], 50)
        tree = tree_of({1: "push 2; push 50; push 0; look; push 1; push 2", 2: "jump 0"}, given=61)
        self.assertEqual((tree[END], tree[USED]), ("well", 61))


class CallsNotBegun(unittest.TestCase):
    def check(self, text, wanted, programs=None, **more):
        tree = tree_of({1: bared(text), **(programs or {})}, **more)
        self.assertEqual(call_steps(tree), [wanted])
        self.assertEqual(stack_behind(tree), [0, 0])
        return tree

    def test_nobody(self):
        for slot in (2, 14, 15, 16, 17, 2 ** 63, TOP):
            for coin, price in ((0, 8), (5, 12), (5000, 12)):
                tree = self.check(f"push {slot}; push {coin}; push 500; push 4; call",
                                  ("call", slot, slot, 1, coin, 4, 0, "nobody", 0, 0, []))
                self.assertEqual(tree[USED], 4 + price + 8)
            tree = self.check(f"push {slot}; push 500; push 4; borrow", ("borrow", 1, slot, 0, 7, 4, 0, "nobody", 0, 0, []), coin=7)
            self.assertEqual(tree[USED], 3 + 6 + 8)
            tree = self.check(f"push {slot}; push 500; push 4; look", ("look", slot, slot, 1, 0, 4, 0, "nobody", 0, 0, []))
            self.assertEqual(tree[USED], 3 + 6 + 8)

    def test_poor(self):
        for coin in (101, 102, TOP):
            tree = self.check(f"push 0; push {coin}; push 500; push 4; call", ("call", 0, 0, 1, coin, 4, 0, "poor", 0, 0, []))
            self.assertEqual(tree[USED], 4 + 12 + 8)
        tree = tree_of({1: "push 0; push 100; push 500; push 4; call"})
        self.assertEqual(call_steps(tree)[0][END], "well")

    def test_poor_hangs_on_who_in_a_borrow(self):
        tree = tree_of({1: "push 2; push 900; push 4; borrow", 2: "push 0; push 60; push 500; push 6; call"}, coins={1: 50})
        self.assertEqual(call_steps(call_steps(tree)[0]), [("call", 0, 0, 1, 60, 6, 0, "poor", 0, 0, [])])
        tree = tree_of({1: "push 2; push 900; push 4; borrow", 2: "push 0; push 60; push 500; push 6; call"}, coins={2: 50})
        self.assertEqual(call_steps(call_steps(tree)[0])[0][END], "well")

    def test_what_came_with_the_call_may_go_on(self):
        tree = tree_of({1: "push 2; push 130; push 500; push 4; call", 2: ""}, coin=30)
        self.assertEqual(call_steps(tree)[0][END], "well")

    def chain(self, row, given=5000, **more):
        tree = tree_of({1: row}, given=given, **more)
        chain = [tree]
        while call_steps(chain[-1]):
            chain.append(call_steps(chain[-1])[0])
        return chain

    def test_the_ninth_is_deep(self):
        for row, kind, coin in (
            ("me; push 0; push 4000; push 4; call", "call", 0), ("me; push 1; push 4000; push 4; call", "call", 1),
            ("me; push 4000; push 4; borrow", "borrow", 0), ("me; push 4000; push 4; look", "look", 0),
        ):
            chain = self.chain(row)
            with self.subTest(row=row):
                self.assertEqual([tree[END] for tree in chain], ["well"] * 8 + ["deep"])
                self.assertEqual(chain[8][:3] + chain[8][4:], (kind, 1, 1, coin, 4, 0, "deep", 0, 0, []))
                own = chain[7][USED]
                self.assertEqual([tree[USED] for tree in chain], [own * k for k in range(8, -1, -1)])

    def test_deep_through_calls_of_all_kinds(self):
        programs = {1: "push 2; push 4000; push 0; look", 2: "push 3; push 0; push 4000; push 0; call",
                    3: "push 1; push 4000; push 0; borrow"}
        tree = tree_of(programs)
        kinds = []
        while True:
            kinds.append((tree[KIND], tree[END]))
            if not call_steps(tree):
                break
            tree = call_steps(tree)[0]
        self.assertEqual([kind for kind, end in kinds], ["call", "look", "call", "borrow", "look", "call", "borrow", "look", "call"])
        self.assertEqual([end for kind, end in kinds], ["well"] * 8 + ["deep"])

    def test_nobody_goes_ahead_of_deep_and_deep_ahead_of_poor(self):
        # Calls itself with a word that grows by one, and at the word told calls elsewhere.
        text = "word; push {}; below; jumpif 10; push {}; push {}; push 0; push 0; call; jump 17; " \
               "me; push 0; push 4000; word; push 1; add; call"
        for last, slot, coin, end in (
            (7, 9, 500, "nobody"), (7, 9, 0, "nobody"), (7, 0, 500, "deep"), (7, 0, 0, "deep"),
            (6, 9, 500, "nobody"), (6, 0, 500, "poor"), (6, 0, 0, "well"), (0, 9, 500, "nobody"), (0, 0, 500, "poor"),
        ):
            chain = self.chain(text.format(last, slot, coin))
            with self.subTest(last=last, slot=slot, coin=coin):
                self.assertEqual([tree[END] for tree in chain], ["well"] * (last + 1) + [end])

    def test_calls_side_by_side_are_not_deep(self):
        text = "; ".join(["push 2; push 9; push 0; look; drop; drop"] * 10)
        tree = tree_of({1: text, 2: ""})
        self.assertEqual([other[END] for other in call_steps(tree)], ["well"] * 10)


class Undoing(unittest.TestCase):
    # The journal keeps just these deeds, and the rooms are as these alone leave them.
    def check(self, programs, standing, **more):
        tree, journal, rooms = ran(programs, **more)
        self.assertEqual(journal.told(), standing)
        wanted = rooms_of(programs)
        for deed in standing:
            if deed[0] == "save":
                wanted[deed[1]].keep(deed[2], deed[4])
            elif deed[0] == "move":
                wanted[deed[1]].coin -= deed[3]
                wanted[deed[2]].coin += deed[3]
        self.assertEqual(plains(rooms), plains(wanted))
        return tree

    def test_each_bad_end_undoes_all(self):
        doing = "push 1; push 5; save; push 7; note; push 2; push 10; push 500; push 0; call"
        for bad, end, given in (("push 3; fail", "fail", 900), ("add; add", "short", 900), (pushes([0] * 24), "full", 900),
                                ("jump 11", "dry", 900), ("jump 11", "dry", 60)):
            tree = self.check({1: joined(doing, "drop", bad), 2: "push 2; push 6; save"}, [], coin=20, given=given)
            self.assertEqual(tree[END], end)
            self.assertEqual(deed_steps(tree), [("move", 0, 1, 20), ("save", 1, 1, 0, 5), ("note", 1, 7)])
            self.assertEqual(deed_steps(call_steps(tree)[0]), [("move", 1, 2, 10), ("save", 2, 2, 0, 6)])
            self.assertEqual(call_steps(tree)[0][END], "well")
            self.assertGreater(tree[USED], 40)

    def test_a_bad_call_within_one_that_ends_well(self):
        tree = self.check({
            1: "push 1; push 5; save; push 2; push 10; push 500; push 0; call; push 1; push 6; save",
            2: "push 2; push 6; save; push 4; note; push 3; fail",
        }, [("move", 0, 1, 20), ("save", 1, 1, 0, 5), ("save", 1, 1, 5, 6)], coin=20)
        other = call_steps(tree)[0]
        self.assertEqual(other[END:], ("fail", 3, 21, [
            ("move", 1, 2, 10), 0, 1, 2, ("save", 2, 2, 0, 6), 3, 4, ("note", 2, 4), 5, 6,
        ]))
        self.assertEqual(tree[END:], ("well", 0, 1 + 1 + 12 + 4 + 12 + 21 + 1 + 1 + 5, [
            ("move", 0, 1, 20), 0, 1, 2, ("save", 1, 1, 0, 5), 3, 4, 5, 6, 7, other, 8, 9, 10, ("save", 1, 1, 5, 6),
        ]))

    def test_a_good_call_within_a_bad_one_within_a_good_one(self):
        tree = self.check({
            1: "push 2; push 10; push 900; push 0; call; push 1; push 5; save",
            2: "push 3; push 5; push 500; push 0; call; push 3; fail",
            3: "push 9; push 9; save; push 1; note",
        }, [("save", 1, 1, 0, 5)])
        middle = call_steps(tree)[0]
        inner = call_steps(middle)[0]
        self.assertEqual((tree[END], middle[END], inner[END]), ("well", "fail", "well"))
        self.assertEqual(inner[STEPS], [("move", 2, 3, 5), 0, 1, 2, ("save", 3, 9, 0, 9), 3, 4, ("note", 3, 1)])
        self.assertEqual(inner[USED], 1 + 1 + 12 + 1 + 4)
        self.assertEqual(middle[USED], 4 + 12 + inner[USED] + 2)
        self.assertEqual(tree[USED], 4 + 12 + middle[USED] + 1 + 1 + 12)

    def test_a_borrow_that_ends_badly(self):
        self.check({
            1: "push 1; push 5; save; push 2; push 500; push 0; borrow; push 8; note",
            2: "push 1; push 0; save; push 3; fail",
        }, [("save", 1, 1, 0, 5), ("note", 1, 8)])

    def test_behind_an_undone_save_the_place_is_as_it_was(self):
        tree = tree_of({
            1: "push 2; push 0; push 500; push 0; call; drop; drop; push 2; push 0; push 500; push 1; call; drop; give",
            2: "word; jumpif 7; push 5; push 6; save; push 1; fail; push 5; load; give",
        })
        self.assertEqual((tree[END], tree[ANSWER]), ("well", 0))

    def test_a_save_is_dear_again_behind_an_undone_one(self):
        tree = tree_of({1: "; ".join(["push 2; push 0; push 500; push 0; call"] * 2), 2: "push 5; push 6; save; push 1; fail"})
        self.assertEqual([other[USED] for other in call_steps(tree)], [16, 16])

    def test_coin_moved_and_undone_may_go_again(self):
        tree = self.check({
            1: "push 2; push 100; push 500; push 0; call; push 3; push 100; push 500; push 0; call",
            2: "push 1; fail", 3: "",
        }, [("move", 1, 3, 100)])
        self.assertEqual([other[END] for other in call_steps(tree)], ["fail", "well"])

    def test_deeds_ahead_in_the_journal_stay(self):
        rooms = rooms_of({1: "push 3; note; push 1; fail"})
        journal = Journal(rooms)
        journal.write(Note(0, 77))
        tree = enter(rooms, journal, 0, 1, 5, 0, 100)
        self.assertEqual((tree[END], journal.told()), ("fail", [("note", 0, 77)]))
        self.assertEqual((rooms[0].coin, rooms[1].coin), (100, 100))

    def test_the_letters_own_move_to_the_sender_itself(self):
        tree, journal, rooms = ran({1: "sent; give"}, coin=100, caller=1)
        self.assertEqual(tree, ("call", 1, 1, 1, 100, 0, 5000, "well", 100, 2, [("move", 1, 1, 100), 0, 1]))
        self.assertEqual((journal.told(), rooms[1].coin), ([("move", 1, 1, 100)], 100))


class Looks(unittest.TestCase):
    BARRED = ("push 1; push 1; save", "push 1; push 0; save", "push 1; note", "push 3; push 1; push 9; push 0; call",
              "push 9; push 1; push 9; push 0; call")

    def looked(self, text, more=None):
        tree = tree_of({1: "push 2; push 900; push 0; look", 2: text, **(more or {})})
        self.assertEqual(tree[END], "well")
        return call_steps(tree)[0]

    def test_barred_in_a_look(self):
        for text in self.BARRED:
            with self.subTest(text=text):
                other = self.looked(text, {3: ""})
                count = text.count(";")
                self.assertEqual(other[END:], ("barred", 0, count, list(range(count))))

    def test_barred_in_every_call_within_a_look(self):
        for within in ("push 4; push 0; push 500; push 0; call", "push 4; push 500; push 0; borrow", "push 4; push 500; push 0; look"):
            for text in self.BARRED:
                with self.subTest(within=within, text=text):
                    other = self.looked(within, {3: "", 4: text})
                    inner = call_steps(other)[0]
                    self.assertEqual((other[END], inner[END], inner[ANSWER]), ("well", "barred", 0))
                    deeper = self.looked(within, {3: "", 4: within.replace("push 4", "push 5"), 5: text})
                    self.assertEqual(call_steps(call_steps(deeper)[0])[0][END], "barred")

    def test_not_barred_in_a_look(self):
        other = self.looked("push 3; push 0; push 100; push 0; call; drop; give", {3: "push 5; give"})
        self.assertEqual((other[END], other[ANSWER]), ("well", 5))
        other = self.looked("push 3; load; push 1; coin; me; word; give")
        self.assertEqual(other[END], "well")

    def test_not_barred_behind_a_look(self):
        tree, journal, rooms = ran({1: "push 2; push 900; push 0; look; push 1; note; push 1; push 1; save; "
                                       "push 2; push 1; push 9; push 0; call", 2: ""})
        self.assertEqual((tree[END], len(journal.told())), ("well", 3))

    def test_not_barred_in_a_call_or_a_borrow_beside(self):
        for row in ("push 2; push 0; push 500; push 0; call", "push 2; push 500; push 0; borrow"):
            for text in self.BARRED:
                other = call_steps(tree_of({1: row, 2: text, 3: ""}))[0]
                self.assertEqual(other[END], "well")

    def test_the_caller_of_a_barred_look_goes_on(self):
        tree = tree_of({1: bared("push 2; push 900; push 0; look"), 2: "push 1; note"})
        self.assertEqual(stack_behind(tree), [0, 0])


class Trees(unittest.TestCase):
    def test_a_whole_tree_with_all_kinds(self):
        programs = {
            1: "push 2; push 5; push 300; push 8; call; push 3; push 100; push 9; look; push 4; push 50; push 1; borrow; "
               "push 9; push 1; push 2; push 3; call",
            2: "push 1; push 1; save; push 3; push 20; push 6; look; give",
            3: "word; note",
            4: "push 7; note; push 6; fail",
        }
        tree, journal, rooms = ran(programs, coin=10, word=11, given=400)
        first_look = ("look", 3, 3, 2, 0, 6, 20, "barred", 0, 1, [0])
        call = ("call", 2, 2, 1, 5, 8, 300, "well", 0, 25, [
            ("move", 1, 2, 5), 0, 1, 2, ("save", 2, 1, 0, 1), 3, 4, 5, 6, first_look, 7,
        ])
        look = ("look", 3, 3, 1, 0, 9, 100, "barred", 0, 1, [0])
        borrow = ("borrow", 1, 4, 0, 10, 1, 50, "fail", 6, 7, [0, 1, ("note", 1, 7), 2, 3])
        nobody = ("call", 9, 9, 1, 1, 3, 0, "nobody", 0, 0, [])
        self.assertEqual(tree, ("call", 1, 1, 0, 10, 11, 400, "well", 0, 4 + 12 + 25 + 3 + 6 + 1 + 3 + 6 + 7 + 4 + 12, [
            ("move", 0, 1, 10), 0, 1, 2, 3, 4, call, 5, 6, 7, 8, look, 9, 10, 11, 12, borrow, 13, 14, 15, 16, 17, nobody,
        ]))
        self.assertEqual(journal.told(), [("move", 0, 1, 10), ("move", 1, 2, 5), ("save", 2, 1, 0, 1)])

    def test_kinds_of_what_is_told(self):
        tree = tree_of({1: "push 1; note; push 2; push 9; push 0; look", 2: ""})
        self.assertIs(type(tree), tuple)
        self.assertEqual(len(tree), 11)
        self.assertEqual([type(part) for part in tree], [str, int, int, int, int, int, int, str, int, int, list])
        self.assertEqual([type(part) for part in tree[STEPS]], [int, int, tuple, int, int, int, int, tuple])

    def test_a_told_tree_is_the_askers_own(self):
        rooms = rooms_of({1: "push 1; note; push 2; push 9; push 0; look", 2: "push 1; give"})
        journal = Journal(rooms)
        tree = enter(rooms, journal, 0, 1, 5, 0, 100)
        kept = repr(tree)
        again = enter(rooms, journal, 0, 1, 5, 0, 100)
        self.assertEqual(repr(tree), kept)
        again[STEPS].clear()
        journal.told().clear()
        self.assertEqual(repr(tree), kept)
        journal.back(0)
        self.assertEqual(repr(tree), kept)
        self.assertEqual(repr(enter(rooms, journal, 0, 1, 5, 0, 100)), kept)

    def test_programs_are_not_changed(self):
        rooms = rooms_of({1: "push 1; push 2; swap 1; push 0; jumpif 0; save"})
        programs = [account.program[:] for account in rooms if account]
        enter(rooms, Journal(rooms), 0, 1, 5, 0, 100)
        self.assertEqual([account.program for account in rooms if account], programs)


if __name__ == "__main__":
    unittest.main()
