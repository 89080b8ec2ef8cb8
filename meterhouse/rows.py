"""What the rows do that begin no other call."""

from meterhouse.accounts import account_at
from meterhouse.deeds import Note, Save
from meterhouse.sums import reckon


def write_step(journal, frame, deed):
    journal.write(deed)
    frame.steps.append(deed.told())


def push_row(rooms, journal, frame, row):
    frame.lay(row[1])


def drop_row(rooms, journal, frame, row):
    frame.taken(1)


def copy_row(rooms, journal, frame, row):
    frame.lay(frame.stack[-1 - row[1]])


def swap_row(rooms, journal, frame, row):
    stack = frame.stack
    under = len(stack) - 1 - row[1]
    deeper = stack[under]
    stack[under] = stack[-1]
    stack[-1] = deeper


def reckon_row(rooms, journal, frame, row):
    taken = frame.taken(2)
    frame.lay(reckon(row[0], taken[0], taken[1]))


def jump_row(rooms, journal, frame, row):
    frame.row = row[1]


def jumpif_row(rooms, journal, frame, row):
    taken = frame.taken(1)
    if taken[0] != 0:
        frame.row = row[1]


def load_row(rooms, journal, frame, row):
    taken = frame.taken(1)
    frame.lay(rooms[frame.who].loaded(taken[0]))


def save_row(rooms, journal, frame, row):
    taken = frame.taken(2)
    old = rooms[frame.who].loaded(taken[0])
    write_step(journal, frame, Save(frame.who, taken[0], old, taken[1]))


def me_row(rooms, journal, frame, row):
    frame.lay(frame.who)


def from_row(rooms, journal, frame, row):
    frame.lay(frame.caller)


def sent_row(rooms, journal, frame, row):
    frame.lay(frame.coin)


def word_row(rooms, journal, frame, row):
    frame.lay(frame.word)


def coin_row(rooms, journal, frame, row):
    taken = frame.taken(1)
    account = account_at(rooms, taken[0])
    frame.lay(0 if account is None else account.coin)


def note_row(rooms, journal, frame, row):
    taken = frame.taken(1)
    write_step(journal, frame, Note(frame.who, taken[0]))


def give_row(rooms, journal, frame, row):
    taken = frame.taken(1)
    frame.finish("well", taken[0])


def fail_row(rooms, journal, frame, row):
    taken = frame.taken(1)
    frame.finish("fail", taken[0])


DOINGS = {
    "push": push_row,
    "drop": drop_row,
    "copy": copy_row,
    "swap": swap_row,
    "add": reckon_row,
    "minus": reckon_row,
    "times": reckon_row,
    "over": reckon_row,
    "rest": reckon_row,
    "below": reckon_row,
    "same": reckon_row,
    "both": reckon_row,
    "either": reckon_row,
    "unlike": reckon_row,
    "up": reckon_row,
    "down": reckon_row,
    "jump": jump_row,
    "jumpif": jumpif_row,
    "load": load_row,
    "save": save_row,
    "me": me_row,
    "from": from_row,
    "sent": sent_row,
    "word": word_row,
    "coin": coin_row,
    "note": note_row,
    "give": give_row,
    "fail": fail_row,
}


def do_row(rooms, journal, frame, row):
    DOINGS[row[0]](rooms, journal, frame, row)
