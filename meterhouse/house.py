"""The house: sixteen slots, a till, letters, and one stamp over all accounts."""

from meterhouse.accounts import Account, account_at
from meterhouse.codes import right
from meterhouse.errors import NoAccount, NoCode, NoLimit, NoNumber, NoSlot, PoorCoin, PoorPurse, Taken, TooMuch
from meterhouse.figures import is_number
from meterhouse.journal import Journal
from meterhouse.machine import enter
from meterhouse.stamps import Stamps, stamp
from meterhouse.words import WIDE

SLOTS = 16
LEAST_LIMIT = 10
MOST_LIMIT = 5000

# What a letter itself uses, ahead of its call.
LETTER_PRICE = 10


def check_slot(slot):
    if not 0 <= slot < SLOTS:
        raise NoSlot("there is no such slot")


def check_numbers(wholes):
    for whole in wholes:
        if not is_number(whole):
            raise NoNumber("a number is from 0 to below WIDE")


def standing(rooms, slot):
    account = account_at(rooms, slot)
    if account is None:
        raise NoAccount("no account is at the slot")
    return account


def check_letter(rooms, sender, to, coin, limit, word):
    check_numbers([coin, word])
    account = standing(rooms, sender)
    standing(rooms, to)
    if not LEAST_LIMIT <= limit <= MOST_LIMIT:
        raise NoLimit("a limit is from 10 to 5000")
    if account.purse < limit:
        raise PoorPurse("the purse has less than the limit")
    if account.coin < coin:
        raise PoorCoin("the sender has less coin than goes with the letter")


def carried(rooms, journal, sender, to, coin, limit, word):
    tree = enter(rooms, journal, sender, to, coin, word, limit - LETTER_PRICE)
    used = LETTER_PRICE + tree[9]
    spared = min(journal.worth(), used // 2)
    return (tree[7], tree[8], used, used - spared, tree, journal.told())


class House:
    def __init__(self):
        self.rooms = [None] * SLOTS
        self.stamps = Stamps([stamp([])] * SLOTS)
        self.takings = 0

    def accounts(self):
        return [account for account in self.rooms if account is not None]

    def check_sums(self, coin, purse):
        coins = sum([account.coin for account in self.accounts()])
        purses = sum([account.purse for account in self.accounts()])
        if coins + coin >= WIDE or purses + self.takings + purse >= WIDE:
            raise TooMuch("all coin, and all purses with the till, stay below WIDE")

    def stamp_anew(self, slot):
        self.stamps.put(slot, stamp(self.plain(slot)))

    def admit(self, slot, coin, purse, program):
        check_slot(slot)
        if self.rooms[slot] is not None:
            raise Taken("an account is at the slot")
        check_numbers([coin, purse])
        if not right(program):
            raise NoCode("the program is not right")
        self.check_sums(coin, purse)
        self.rooms[slot] = Account(coin, purse, program)
        self.stamp_anew(slot)

    def charge(self, sender, paid):
        account = self.rooms[sender]
        account.count += 1
        account.purse -= paid
        self.takings += paid

    def send(self, sender, to, coin, limit, word=0):
        check_letter(self.rooms, sender, to, coin, limit, word)
        journal = Journal(self.rooms)
        told = carried(self.rooms, journal, sender, to, coin, limit, word)
        self.charge(sender, told[3])
        for slot in sorted(set(journal.touched() + [sender])):
            self.stamp_anew(slot)
        return told

    # What stands behind the call is undone too, so that the very accounts are as they were.
    def tried(self, sender, to, coin, limit, word=0):
        check_letter(self.rooms, sender, to, coin, limit, word)
        journal = Journal(self.rooms)
        told = carried(self.rooms, journal, sender, to, coin, limit, word)
        journal.back(0)
        return told

    def coin_of(self, slot):
        return standing(self.rooms, slot).coin

    def purse_of(self, slot):
        return standing(self.rooms, slot).purse

    def count_of(self, slot):
        return standing(self.rooms, slot).count

    def loaded(self, slot, place):
        return standing(self.rooms, slot).loaded(place)

    def program_of(self, slot):
        return list(standing(self.rooms, slot).program)

    def till(self):
        return self.takings

    def plain(self, slot):
        check_slot(slot)
        if self.rooms[slot] is None:
            return []
        return self.rooms[slot].plain()

    def paper(self, slot):
        return (slot, self.plain(slot), self.stamps.way(slot))

    def top(self):
        return self.stamps.top()
