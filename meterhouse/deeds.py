"""Deeds: what is done on rooms, and undone."""

# What is spared where a place is given back its 0.
FREED = 4


def shift_coin(giver, taker, many):
    giver.coin -= many
    taker.coin += many


class Deed:
    def do(self, rooms):
        pass

    def undo(self, rooms):
        pass

    def told(self):
        return ("deed",)

    def worth(self):
        return 0

    def touched(self):
        return []


class Save(Deed):
    def __init__(self, slot, place, old, new):
        self.slot = slot
        self.place = place
        self.old = old
        self.new = new

    def do(self, rooms):
        rooms[self.slot].keep(self.place, self.new)

    def undo(self, rooms):
        rooms[self.slot].keep(self.place, self.old)

    def told(self):
        return ("save", self.slot, self.place, self.old, self.new)

    def worth(self):
        if self.old != 0 and self.new == 0:
            return FREED
        return 0

    def touched(self):
        return [self.slot]


class Move(Deed):
    def __init__(self, slot, taker, many):
        self.slot = slot
        self.taker = taker
        self.many = many

    def do(self, rooms):
        shift_coin(rooms[self.slot], rooms[self.taker], self.many)

    def undo(self, rooms):
        shift_coin(rooms[self.taker], rooms[self.slot], self.many)

    def told(self):
        return ("move", self.slot, self.taker, self.many)

    def touched(self):
        return sorted(set([self.slot, self.taker]))


class Note(Deed):
    def __init__(self, slot, number):
        self.slot = slot
        self.number = number

    def told(self):
        return ("note", self.slot, self.number)
