"""Point 3, (a) to (f), over many drawn houses and letters, and the same letters done anew
by a plain doing of points 17 to 25 that works on copies where the program undoes."""

import copy
import random
import unittest

from meterhouse.errors import HouseError
from meterhouse.house import House
from meterhouse.papers import clash, holds
from meterhouse.stamps import MIX, levels, mix, stamp

WIDE = 2 ** 64
TOP = WIDE - 1

WORDS = (
    "push drop copy swap add minus times over rest below same both either unlike up down jump jumpif "
    "load save me from sent word coin note call borrow look give fail"
).split()

PRICES = dict.fromkeys(WORDS, 1)
PRICES.update(times=2, over=2, rest=2, load=3, coin=3, note=4, save=5, call=8, borrow=6, look=6)

TAKES = dict.fromkeys(WORDS, 2)
TAKES.update(dict.fromkeys("push me from sent word jump".split(), 0))
TAKES.update(dict.fromkeys("drop jumpif note give fail load coin".split(), 1), call=4, borrow=3, look=3)

LEAVES = dict.fromkeys(WORDS, 1)
LEAVES.update(dict.fromkeys("drop jumpif note give fail jump save".split(), 0), call=2, borrow=2, look=2)

RECKONING = {
    "add": lambda one, other: (one + other) % WIDE,
    "minus": lambda one, other: (one - other) % WIDE,
    "times": lambda one, other: (one * other) % WIDE,
    "over": lambda one, other: one // other if other else 0,
    "rest": lambda one, other: one % other if other else 0,
    "below": lambda one, other: int(one < other),
    "same": lambda one, other: int(one == other),
    "both": lambda one, other: one & other,
    "either": lambda one, other: one | other,
    "unlike": lambda one, other: one ^ other,
    "up": lambda one, other: (one << other) % WIDE if other < 64 else 0,
    "down": lambda one, other: one >> other if other < 64 else 0,
}

KIND, WHO, WHOSE, CALLER, COIN, WORD, GIVEN, END, ANSWER, USED, STEPS = range(11)


# An account out of its plain list.
def opened(plain):
    if not plain:
        return None
    many = plain[3]
    numbers = plain[4:4 + 2 * many]
    rows = []
    for k in range(many):
        word = WORDS[numbers[2 * k]]
        rows.append((word, numbers[2 * k + 1]) if word in ("push", "copy", "swap", "jump", "jumpif") else (word,))
    stored = plain[5 + 2 * many:]
    store = {stored[k]: stored[k + 1] for k in range(0, len(stored), 2)}
    assert len(store) == plain[4 + 2 * many]
    return {"count": plain[0], "coin": plain[1], "purse": plain[2], "rows": rows, "store": store}


def accounts_of(house):
    return [opened(house.plain(slot)) for slot in range(16)]


def snapshot(house):
    return {
        "accounts": accounts_of(house), "till": house.till(), "top": house.top(),
        "papers": [house.paper(slot) for slot in range(16)],
    }


def account_in(accounts, slot):
    return accounts[slot] if slot < 16 else None


def price_of(row, accounts, who, stack):
    if row[0] == "save" and stack[-1] != 0 and accounts[who]["store"].get(stack[-2], 0) == 0:
        return 12
    if row[0] == "call" and stack[-3] > 0:
        return 12
    return PRICES[row[0]]


# Does a told deed, and sees that it fits.
def do_told(accounts, deed):
    if deed[0] == "save":
        store = accounts[deed[1]]["store"]
        assert store.get(deed[2], 0) == deed[3], deed
        store[deed[2]] = deed[4]
        if deed[4] == 0:
            del store[deed[2]]
    elif deed[0] == "move":
        assert accounts[deed[1]]["coin"] >= deed[3] > 0, deed
        accounts[deed[1]]["coin"] -= deed[3]
        accounts[deed[2]]["coin"] += deed[3]
    else:
        assert deed[0] == "note" and accounts[deed[1]] is not None and len(deed) == 3, deed


def undo_told(accounts, deed):
    if deed[0] == "save":
        do_told(accounts, ("save", deed[1], deed[2], deed[4], deed[3]))
    elif deed[0] == "move":
        do_told(accounts, ("move", deed[2], deed[1], deed[3]))


# A call done on a copy of the accounts; tells its tree, the accounts behind, the deeds that stand.
class Call:
    def __init__(self, accounts, kind, who, whose, caller, coin, word, given, depth, looking):
        self.head = (kind, who, whose, caller, coin, word, given)
        self.ahead, self.accounts = accounts, copy.deepcopy(accounts)
        self.kind, self.who, self.whose, self.caller = kind, who, whose, caller
        self.coin, self.word, self.given, self.depth, self.looking = coin, word, given, depth, looking
        self.stack, self.steps, self.deeds, self.used, self.at = [], [], [], 0, 0

    def done(self):
        if self.kind == "call" and self.coin > 0:
            self.deed(("move", self.caller, self.who, self.coin))
        ended = None
        while ended is None:
            ended = self.row()
        tree = self.head + ended + (self.used, self.steps)
        if ended[0] == "well":
            return tree, self.accounts, self.deeds
        return tree, self.ahead, []

    def deed(self, deed):
        do_told(self.accounts, deed)
        self.deeds.append(deed)
        self.steps.append(deed)

    def row(self):
        rows = self.accounts[self.whose]["rows"]
        if self.at == len(rows):
            return ("well", 0)
        row = rows[self.at]
        takes, leaves = TAKES[row[0]], LEAVES[row[0]]
        if row[0] in ("copy", "swap"):
            takes, leaves = row[1] + 1, row[1] + (2 if row[0] == "copy" else 1)
        if len(self.stack) < takes:
            return ("short", 0)
        if len(self.stack) - takes + leaves > 24:
            return ("full", 0)
        if self.looking and (row[0] in ("save", "note") or (row[0] == "call" and self.stack[-3] > 0)):
            return ("barred", 0)
        price = price_of(row, self.accounts, self.who, self.stack)
        if price > self.given - self.used:
            return ("dry", 0)
        self.used += price
        self.steps.append(self.at)
        self.at += 1
        return self.gone(row[0], row[-1])

    def gone(self, word, number):
        pop, push = self.stack.pop, self.stack.append
        if word == "push":
            push(number)
        elif word == "drop":
            pop()
        elif word == "copy":
            push(self.stack[-1 - number])
        elif word == "swap":
            self.stack[-1], self.stack[-1 - number] = self.stack[-1 - number], self.stack[-1]
        elif word in RECKONING:
            other, one = pop(), pop()
            push(RECKONING[word](one, other))
        elif word == "jump" or (word == "jumpif" and pop() != 0):
            self.at = number
        elif word == "load":
            push(self.accounts[self.who]["store"].get(pop(), 0))
        elif word == "save":
            new, place = pop(), pop()
            self.deed(("save", self.who, place, self.accounts[self.who]["store"].get(place, 0), new))
        elif word in ("me", "from", "sent", "word"):
            push({"me": self.who, "from": self.caller, "sent": self.coin, "word": self.word}[word])
        elif word == "coin":
            account = account_in(self.accounts, pop())
            push(account["coin"] if account else 0)
        elif word == "note":
            self.deed(("note", self.who, pop()))
        elif word in ("give", "fail"):
            return ("well" if word == "give" else "fail", pop())
        elif word in ("call", "borrow", "look"):
            self.other(word)

    def other(self, kind):
        word, asks = self.stack.pop(), self.stack.pop()
        coin = self.stack.pop() if kind == "call" else 0
        slot = self.stack.pop()
        head = (kind, slot, slot, self.who, coin, word)
        if kind == "borrow":
            head = (kind, self.who, slot, self.caller, self.coin, word)
        end = None
        if account_in(self.accounts, slot) is None:
            end = "nobody"
        elif self.depth == 8:
            end = "deep"
        elif kind == "call" and coin > self.accounts[self.who]["coin"]:
            end = "poor"
        if end:
            tree = head + (0, end, 0, 0, [])
        else:
            given = min(asks, self.given - self.used)
            call = Call(self.accounts, *head, given, self.depth + 1, self.looking or kind == "look")
            tree, self.accounts, deeds = call.done()
            self.deeds = self.deeds + deeds
        self.used += tree[USED]
        self.steps.append(tree)
        self.stack += [tree[ANSWER], int(tree[END] == "well")]


# What a letter tells, and the accounts and the till behind it.
def letter_done(ahead, sender, to, coin, limit, word):
    tree, accounts, deeds = Call(ahead["accounts"], "call", to, to, sender, coin, word, limit - 10, 1, False).done()
    accounts = copy.deepcopy(accounts)
    used = 10 + tree[USED]
    worth = sum(4 for deed in deeds if deed[0] == "save" and deed[3] != 0 and deed[4] == 0)
    paid = used - min(worth, used // 2)
    accounts[sender]["count"] += 1
    accounts[sender]["purse"] -= paid
    return (tree[END], tree[ANSWER], used, paid, tree, deeds), accounts, ahead["till"] + paid


# Pieces of programs that do something, so that drawn programs come to each end.
def drawn_piece(draw):
    slot = draw.choice((0, 1, 2, 3, 4, 15) * 3 + (9, 16, TOP))
    asks = draw.choice((0, 15, 60, 200, 900, 900, TOP, TOP))
    word = draw.choice((("word",), ("push", draw.randrange(4))))
    behind = draw.choice(([], [("drop",), ("drop",)], [("drop",)], [("jumpif", None)], [("jumpif", None), ("fail",)]))
    kind = draw.choice("call call call lend lend save save load coin note leap leap sum pile any".split())
    if kind == "call":
        coin = draw.choice((0, 0, 0, 1, 7, 60, 500))
        return [("push", slot), ("push", coin), ("push", asks), word, ("call",)] + behind
    if kind == "lend":
        return [("push", slot), ("push", asks), word, (draw.choice(("borrow", "look")),)] + behind
    if kind == "save":
        return [("push", draw.randrange(3)), draw.choice((word, ("push", 0), ("me",), ("sent",))), ("save",)]
    if kind == "load":
        return [("push", draw.randrange(3)), ("load",)] + draw.choice(([], [("jumpif", None)], [("note",)]))
    if kind == "coin":
        return [("push", slot), ("coin",)]
    if kind == "note":
        return [draw.choice((word, ("from",), ("me",))), ("note",)]
    if kind == "leap":
        return [word, (draw.choice(("jumpif", "jumpif", "jump", "give", "fail")), None)]
    if kind == "sum":
        return [("push", draw.choice((0, 1, 2, 65, TOP))), word, (draw.choice(list(RECKONING) + ["copy", "swap"]),)]
    if kind == "pile":
        return [("me",)] * draw.choice((2, 3, 4, 25))
    return [(draw.choice(WORDS),)]


# The numbers behind words that hang on the program, once its rows are counted.
def settled(draw, row, count):
    if row[0] in ("jump", "jumpif"):
        return (row[0], draw.choice((count, draw.randint(0, count))))
    if row[0] == "push":
        return row if len(row) == 2 else ("push", draw.getrandbits(64))
    if row[0] in ("copy", "swap"):
        return (row[0], draw.randint(1, draw.choice((1, 2, 15))))
    return row[:1]


def drawn_program(draw):
    rows = []
    for turn in range(draw.choice((0, 1, 2, 3, 4, 6, 10))):
        rows += drawn_piece(draw)
    rows = rows[:60]
    return [settled(draw, row, len(rows)) for row in rows]


def no_given(tree):
    steps = [no_given(step) if type(step) is tuple and len(step) == 11 else step for step in tree[STEPS]]
    return tree[:GIVEN] + tree[GIVEN + 1:STEPS] + (steps,)


def trees_in(tree):
    found = [tree]
    for step in tree[STEPS]:
        if type(step) is tuple and len(step) == 11:
            found += trees_in(step)
    return found


def with_greater_limits(draw, house, letter, told):
    sender, to, coin, limit, word = letter
    if any(tree[END] == "dry" for tree in trees_in(told[4])):
        return []
    highest = min(5000, house.purse_of(sender))
    limits = {limit, min(limit + 1, highest), draw.randint(limit, highest), highest}
    return [house.tried(sender, to, coin, greater, word) for greater in sorted(limits)]


# One record for each letter of a drawn house that is not refused.
def history(seed):
    draw = random.Random(seed)
    house = House()
    for slot in (0, 1, 2, 3, 4, 15):
        house.admit(slot, draw.choice((0, 50, 400, 400)), draw.choice((300, 20000, 90000)), drawn_program(draw))
    records = []
    for turn in range(16):
        letter = (draw.choice((0, 1, 2, 3, 4, 5, 15)), draw.choice((0, 1, 2, 3, 4, 15)), draw.choice((0, 0, 1, 3, 40)),
                  draw.choice((10, 25, 60, 150, 400, 1200, 1200)), draw.choice((0, 1, 2, 3, TOP)))
        ahead = snapshot(house)
        try:
            tried = house.tried(*letter)
        except HouseError:
            continue
        greater = with_greater_limits(draw, house, letter, tried)
        between = snapshot(house)
        told = house.send(*letter)
        records.append({"letter": letter, "ahead": ahead, "tried": tried, "between": between, "greater": greater,
                        "told": told, "behind": snapshot(house)})
    return records


def price_apart(accounts):
    return [account and {key: account[key] for key in ("coin", "rows", "store")} for account in accounts]


def prices_in(tree, accounts):
    total = 0
    for k, step in enumerate(tree[STEPS]):
        if type(step) is int:
            word = accounts[tree[WHOSE]]["rows"][step][0]
            made = tree[STEPS][k + 1] if word in ("save", "call") else None
            dear = (word == "save" and made[3] == 0 and made[4] != 0) or (word == "call" and made[COIN] > 0)
            total += 12 if dear else PRICES[word]
        elif len(step) == 11:
            total += prices_in(step, accounts)
    return total


# Each call on a copy of its own, which falls away where the call ended badly.
def followed(accounts, tree):
    own = copy.deepcopy(accounts)
    for step in tree[STEPS]:
        if type(step) is tuple and len(step) == 11:
            own = followed(own, step)
        elif type(step) is tuple:
            do_told(own, step)
    return own if tree[END] == "well" else accounts


class Whole(unittest.TestCase):
    @classmethod
    def setUpClass(cls):
        cls.histories = [history(seed) for seed in range(250)]
        cls.records = [record for records in cls.histories for record in records]

    def test_every_kind_of_call_and_every_end_was_seen(self):
        seen = {}
        for record in self.records:
            for tree in trees_in(record["told"][4]):
                seen[tree[KIND], tree[END]] = seen.get((tree[KIND], tree[END]), 0) + 1
        ends = ("well", "fail", "short", "full", "dry", "nobody", "deep")
        wanted = [(kind, end) for kind in ("call", "borrow", "look") for end in ends]
        wanted += [("call", "poor"), ("look", "barred"), ("call", "barred"), ("borrow", "barred")]
        self.assertEqual([pair for pair in wanted if pair not in seen], [])
        self.assertEqual([pair for pair in seen if pair not in wanted], [])
        self.assertTrue(any(record["told"][3] < record["told"][2] for record in self.records))
        self.assertTrue(any(len(record["greater"]) > 2 for record in self.records))

    def test_the_same_as_done_anew_on_copies(self):
        for record in self.records:
            told, accounts, till = letter_done(record["ahead"], *record["letter"])
            self.assertEqual(record["told"], told)
            self.assertEqual(record["behind"]["accounts"], accounts)
            self.assertEqual(record["behind"]["till"], till)

    def test_tried_tells_the_same_and_changes_nothing(self):
        for record in self.records:
            self.assertEqual(record["tried"], record["told"])
            self.assertEqual(record["between"], record["ahead"])

    def test_a_coin_and_purses_with_the_till_stay(self):
        for records in self.histories:
            sums = []
            for record in records:
                for now in (record["ahead"], record["behind"]):
                    there = [account for account in now["accounts"] if account]
                    sums.append((sum(account["coin"] for account in there),
                                 sum(account["purse"] for account in there) + now["till"]))
            self.assertLessEqual(len(set(sums)), 1)

    def test_b_what_is_used_and_paid(self):
        for record in self.records:
            end, answer, used, paid, tree, deeds = record["told"]
            self.assertEqual(used, 10 + prices_in(tree, record["ahead"]["accounts"]))
            self.assertLessEqual(used, record["letter"][3])
            self.assertTrue(used <= 2 * paid <= 2 * used)
            sender = record["letter"][0]
            first, last = record["ahead"]["accounts"][sender], record["behind"]["accounts"][sender]
            self.assertEqual(last["purse"], first["purse"] - paid)
            self.assertEqual(last["count"], first["count"] + 1)
            self.assertEqual(record["behind"]["till"], record["ahead"]["till"] + paid)
            for inner in trees_in(tree):
                self.assertEqual(inner[USED], prices_in(inner, record["ahead"]["accounts"]))
                self.assertLessEqual(inner[USED], inner[GIVEN])

    def test_c_the_tree_leads_from_the_house_ahead_to_the_house_behind(self):
        for record in self.records:
            accounts = followed(record["ahead"]["accounts"], record["told"][4])
            self.assertEqual(price_apart(accounts), price_apart(record["behind"]["accounts"]))
            others = [slot for slot in range(16) if slot != record["letter"][0]]
            self.assertEqual([accounts[slot] for slot in others], [record["behind"]["accounts"][slot] for slot in others])

    def test_d_the_deeds_lead_there_and_back(self):
        for record in self.records:
            deeds = record["told"][5]
            accounts = copy.deepcopy(record["ahead"]["accounts"])
            for deed in deeds:
                do_told(accounts, deed)
            self.assertEqual(price_apart(accounts), price_apart(record["behind"]["accounts"]))
            accounts = copy.deepcopy(record["behind"]["accounts"])
            for deed in reversed(deeds):
                undo_told(accounts, deed)
            self.assertEqual(price_apart(accounts), price_apart(record["ahead"]["accounts"]))

    def test_e_greater_limits_change_nothing_where_no_call_ran_dry(self):
        for record in self.records:
            told = record["told"]
            for other in record["greater"]:
                self.assertEqual(other[:4] + other[5:], told[:4] + told[5:])
                self.assertEqual(no_given(other[4]), no_given(told[4]))

    def test_f_the_stamp_and_the_papers(self):
        for record in self.records:
            for now in (record["ahead"], record["behind"]):
                above = levels([stamp(paper[1]) for paper in now["papers"]])
                self.assertEqual(now["top"], above[-1][0])
                for slot, paper in enumerate(now["papers"]):
                    self.assertEqual((paper[0], opened(paper[1])), (slot, now["accounts"][slot]))
                    self.assertEqual(len(paper[2]), 4)
                    self.assertTrue(holds(paper, now["top"]))

    def test_f_alike_accounts_have_one_stamp(self):
        for records in self.histories:
            if records:
                accounts = records[0]["ahead"]["accounts"]
                house = House()
                for slot in reversed(range(16)):
                    if accounts[slot]:
                        house.admit(slot, accounts[slot]["coin"], accounts[slot]["purse"], accounts[slot]["rows"])
                self.assertEqual(house.top(), records[0]["ahead"]["top"])

    def test_f_two_papers_that_say_unlike_things_tell_a_clash(self):
        for record in self.records[:200]:
            for slot in (0, 4, 15):
                place, numbers, way = record["behind"]["papers"][slot]
                forged = (place, numbers[:-1] + [numbers[-1] + MIX], way)
                self.assertTrue(holds(forged, record["behind"]["top"]))
                one, other = clash((place, numbers, way), forged)
                self.assertNotEqual(one, other)
                self.assertEqual(mix(*one), mix(*other))

    def test_the_stamp_changes_with_each_letter(self):
        for record in self.records:
            self.assertNotEqual(record["ahead"]["top"], record["behind"]["top"])


if __name__ == "__main__":
    unittest.main()
