"""Accounts, and where they stand in rooms."""

from meterhouse.words import WORDS


def row_numbers(row):
    if len(row) == 1:
        return [WORDS.index(row[0]), 0]
    return [WORDS.index(row[0]), row[1]]


class Account:
    def __init__(self, coin, purse, program):
        self.coin = coin
        self.purse = purse
        self.count = 0
        self.program = list(program)
        self.store = {}

    def loaded(self, place):
        return self.store.get(place, 0)

    # A place of 0 is not kept, so that the plain list hangs on no road.
    def keep(self, place, number):
        if number == 0:
            self.store.pop(place, None)
        else:
            self.store[place] = number

    def plain(self):
        numbers = [self.count, self.coin, self.purse, len(self.program)]
        for row in self.program:
            numbers.extend(row_numbers(row))
        numbers.append(len(self.store))
        for place in sorted(self.store):
            numbers.extend([place, self.store[place]])
        return numbers


# A slot may be any whole number here: below nought Python would count from the end.
def account_at(rooms, slot):
    if 0 <= slot < len(rooms):
        return rooms[slot]
    return None
