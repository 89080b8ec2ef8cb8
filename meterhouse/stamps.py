"""Stamps of lists of numbers, and the levels of stamps over leaves."""

MIX = 2305843009213693951


def mix(one, other):
    return (998244353 * one + 1000000007 * other + 97) % MIX


# The pairs are told one by one, since a clash of two papers is looked for among them.
def stamp_pairs(numbers):
    pairs = []
    now = 1
    for number in numbers:
        pairs.append((now, number))
        now = mix(now, number)
    pairs.append((now, len(numbers)))
    return pairs


def stamp(numbers):
    last = stamp_pairs(numbers)[-1]
    return mix(last[0], last[1])


def next_level(level):
    return [mix(level[k], level[k + 1]) for k in range(0, len(level) - 1, 2)]


def levels(leaves):
    found = [list(leaves)]
    while len(found[-1]) > 1:
        found.append(next_level(found[-1]))
    return found


def neighbour(place):
    if place % 2 == 0:
        return place + 1
    return place - 1


class Stamps:
    def __init__(self, leaves):
        self.kept = levels(leaves)

    # Only what stands over the place is mixed anew: all else is as it was.
    def put(self, place, leaf):
        level = self.kept[0]
        level[place] = leaf
        for k in range(1, len(self.kept)):
            place = place // 2
            leaf = mix(level[2 * place], level[2 * place + 1])
            level = self.kept[k]
            level[place] = leaf

    def top(self):
        return self.kept[-1][0]

    def way(self, place):
        found = []
        for level in self.kept[:-1]:
            found.append(level[neighbour(place)])
            place = place // 2
        return found
