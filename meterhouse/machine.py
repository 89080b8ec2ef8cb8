"""Calls: how they begin, go row by row, begin others, and end."""

from meterhouse.accounts import account_at
from meterhouse.deeds import Move
from meterhouse.frames import Frame
from meterhouse.rows import do_row, write_step
from meterhouse.words import price, takes

# So many calls may go on within one another, the letter's own among them.
MOST_CALLS = 8

CALLING = ("call", "borrow", "look")


# Of a slot, coin, what it asks and a word, the coin is the second from below.
def brings_coin(frame, row):
    return row[0] == "call" and frame.stack[-3] > 0


def fills_place(rooms, frame, row):
    if row[0] != "save" or frame.stack[-1] == 0:
        return False
    return rooms[frame.who].loaded(frame.stack[-2]) == 0


def row_price(rooms, frame, row):
    return price(row, brings_coin(frame, row) or fills_place(rooms, frame, row))


def is_barred(frame, row):
    return frame.looking and (row[0] in ("save", "note") or brings_coin(frame, row))


def end_ahead_of(rooms, frame, row):
    if frame.short_for(row):
        return "short"
    if frame.full_behind(row):
        return "full"
    if is_barred(frame, row):
        return "barred"
    if row_price(rooms, frame, row) > frame.left():
        return "dry"
    return None


# The other call stands as if it were given all that it asks; whether and with how much
# it begins is found afterwards.
def other_call(frame, row):
    taken = frame.taken(takes(row))
    slot = taken[0]
    asks = taken[-2]
    word = taken[-1]
    depth = frame.depth + 1
    if row[0] == "call":
        return Frame("call", slot, slot, frame.who, taken[1], word, asks, depth, frame.looking)
    if row[0] == "borrow":
        return Frame("borrow", frame.who, slot, frame.caller, frame.coin, word, asks, depth, frame.looking)
    return Frame("look", slot, slot, frame.who, 0, word, asks, depth, True)


def end_ahead_of_call(rooms, other):
    if account_at(rooms, other.whose) is None:
        return "nobody"
    if other.depth > MOST_CALLS:
        return "deep"
    if other.kind == "call" and other.coin > rooms[other.caller].coin:
        return "poor"
    return None


def call_row(rooms, journal, frame, row):
    other = other_call(frame, row)
    end = end_ahead_of_call(rooms, other)
    if end is None:
        other.given = min(other.given, frame.left())
        go(rooms, journal, other)
    else:
        other.given = 0
        other.finish(end, 0)
    frame.used += other.used
    frame.steps.append(other.tree())
    frame.lay(other.answer)
    frame.lay(1 if other.end == "well" else 0)


def go_row(rooms, journal, frame, row):
    frame.used += row_price(rooms, frame, row)
    frame.steps.append(frame.row)
    frame.row += 1
    if row[0] in CALLING:
        call_row(rooms, journal, frame, row)
    else:
        do_row(rooms, journal, frame, row)


def go_on(rooms, journal, frame):
    program = rooms[frame.whose].program
    if frame.row >= len(program):
        frame.finish("well", 0)
        return
    row = program[frame.row]
    end = end_ahead_of(rooms, frame, row)
    if end is None:
        go_row(rooms, journal, frame, row)
    else:
        frame.finish(end, 0)


def go(rooms, journal, frame):
    mark = journal.mark()
    if frame.kind == "call" and frame.coin > 0:
        write_step(journal, frame, Move(frame.caller, frame.who, frame.coin))
    while frame.end is None:
        go_on(rooms, journal, frame)
    if frame.end != "well":
        journal.back(mark)


def enter(rooms, journal, caller, who, coin, word, given):
    frame = Frame("call", who, who, caller, coin, word, given)
    go(rooms, journal, frame)
    return frame.tree()
