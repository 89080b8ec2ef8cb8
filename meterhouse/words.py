"""The words of rows: their order, what a row takes and leaves, and its price."""

# 2 ** 64, written out: the top of a file holds plain values alone.
WIDE = 18446744073709551616

# The order is promised: a word's place here is its number in an account's plain list.
WORDS = (
    "push", "drop", "copy", "swap",
    "add", "minus", "times", "over", "rest", "below", "same", "both", "either", "unlike", "up", "down",
    "jump", "jumpif", "load", "save",
    "me", "from", "sent", "word", "coin", "note",
    "call", "borrow", "look", "give", "fail",
)

NUMBERED = ("push", "copy", "swap", "jump", "jumpif")

# These reach down as far as the number behind them tells, and take and leave so many more.
REACHING = ("copy", "swap")

# For each word: what it takes, what it leaves, its price, its price where it is dear.
# Copy and swap stand here as if 0 stood behind them.
ROWS = {
    "push": (0, 1, 1, 1),
    "drop": (1, 0, 1, 1),
    "copy": (1, 2, 1, 1),
    "swap": (1, 1, 1, 1),
    "add": (2, 1, 1, 1),
    "minus": (2, 1, 1, 1),
    "times": (2, 1, 2, 2),
    "over": (2, 1, 2, 2),
    "rest": (2, 1, 2, 2),
    "below": (2, 1, 1, 1),
    "same": (2, 1, 1, 1),
    "both": (2, 1, 1, 1),
    "either": (2, 1, 1, 1),
    "unlike": (2, 1, 1, 1),
    "up": (2, 1, 1, 1),
    "down": (2, 1, 1, 1),
    "jump": (0, 0, 1, 1),
    "jumpif": (1, 0, 1, 1),
    "load": (1, 1, 3, 3),
    "save": (2, 0, 5, 12),
    "me": (0, 1, 1, 1),
    "from": (0, 1, 1, 1),
    "sent": (0, 1, 1, 1),
    "word": (0, 1, 1, 1),
    "coin": (1, 1, 3, 3),
    "note": (1, 0, 4, 4),
    "call": (4, 2, 8, 12),
    "borrow": (3, 2, 6, 6),
    "look": (3, 2, 6, 6),
    "give": (1, 0, 1, 1),
    "fail": (1, 0, 1, 1),
}


def numbered(word):
    return word in NUMBERED


def reach(row):
    if row[0] in REACHING:
        return row[1]
    return 0


def takes(row):
    return ROWS[row[0]][0] + reach(row)


def leaves(row):
    return ROWS[row[0]][1] + reach(row)


def price(row, dear=False):
    if dear:
        return ROWS[row[0]][3]
    return ROWS[row[0]][2]
