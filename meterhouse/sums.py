"""The twelve words that reckon with two numbers."""

from meterhouse.words import WIDE

# How many binary figures a number below WIDE has.
FIGURES = 64


def added(one, other):
    return (one + other) % WIDE


def lessened(one, other):
    return (one - other) % WIDE


def multiplied(one, other):
    return one * other % WIDE


def contained(one, other):
    if other == 0:
        return 0
    return one // other


def left_over(one, other):
    if other == 0:
        return 0
    return one % other


# A truth is no number, so comparisons are told as 1 and 0.
def is_below(one, other):
    return 1 if one < other else 0


def is_same(one, other):
    return 1 if one == other else 0


def in_both(one, other):
    return one & other


def in_either(one, other):
    return one | other


def in_just_one(one, other):
    return one ^ other


# Asked first, lest a far shift build a number that no memory holds. A shift by less than
# nought would be an error of Python's own, and nothing is refused here: it is no shift.
def doubled(one, other):
    if other >= FIGURES:
        return 0
    return (one << max(other, 0)) % WIDE


def halved(one, other):
    if other >= FIGURES:
        return 0
    return one >> max(other, 0)


SUMS = {
    "add": added,
    "minus": lessened,
    "times": multiplied,
    "over": contained,
    "rest": left_over,
    "below": is_below,
    "same": is_same,
    "both": in_both,
    "either": in_either,
    "unlike": in_just_one,
    "up": doubled,
    "down": halved,
}


def reckon(word, one, other):
    return SUMS[word](one, other)
