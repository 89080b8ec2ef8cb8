"""Frames: what a call keeps while it goes on."""

from meterhouse.words import leaves, takes

MOST_ON_STACK = 24


class Frame:
    def __init__(self, kind, who, whose, caller, coin, word, given, depth=1, looking=False):
        self.kind = kind
        self.who = who
        self.whose = whose
        self.caller = caller
        self.coin = coin
        self.word = word
        self.given = given
        self.depth = depth
        self.looking = looking
        self.used = 0
        self.stack = []
        self.row = 0
        self.steps = []
        self.end = None
        self.answer = 0

    def left(self):
        return self.given - self.used

    def short_for(self, row):
        return len(self.stack) < takes(row)

    def full_behind(self, row):
        return len(self.stack) - takes(row) + leaves(row) > MOST_ON_STACK

    # The deepest of those taken comes first, as rows name them.
    def taken(self, many):
        numbers = []
        for turn in range(many):
            numbers.append(self.stack.pop())
        return list(reversed(numbers))

    def lay(self, number):
        self.stack.append(number)

    def finish(self, end, answer):
        self.end = end
        self.answer = answer

    def tree(self):
        return (
            self.kind, self.who, self.whose, self.caller, self.coin, self.word, self.given,
            self.end, self.answer, self.used, list(self.steps),
        )
