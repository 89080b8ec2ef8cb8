"""The journal: deeds written, done at once, and undone back to a mark."""


class Journal:
    def __init__(self, rooms):
        self.rooms = rooms
        self.deeds = []

    def write(self, deed):
        deed.do(self.rooms)
        self.deeds.append(deed)

    def mark(self):
        return len(self.deeds)

    # A mark below nought is no refusal: there is nothing further back than the begin.
    def back(self, mark):
        while len(self.deeds) > max(mark, 0):
            deed = self.deeds.pop()
            deed.undo(self.rooms)

    def told(self):
        return [deed.told() for deed in self.deeds]

    def worth(self):
        return sum([deed.worth() for deed in self.deeds])

    def touched(self):
        slots = []
        for deed in self.deeds:
            slots.extend(deed.touched())
        return sorted(set(slots))
