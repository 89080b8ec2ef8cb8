"""Programs: when they are right, and how they are written."""

from meterhouse.errors import NoCode
from meterhouse.figures import is_number, number_of
from meterhouse.words import WORDS, numbered

MOST_ROWS = 60
DEEPEST = 15
PARTING = "; "


def right_number(word, whole, count):
    if word == "push":
        return is_number(whole)
    if word == "copy":
        return 0 <= whole <= DEEPEST
    if word == "swap":
        return 1 <= whole <= DEEPEST
    return 0 <= whole <= count


def right_row(row, count):
    if len(row) == 0 or row[0] not in WORDS:
        return False
    if not numbered(row[0]):
        return len(row) == 1
    return len(row) == 2 and right_number(row[0], row[1], count)


def right(rows):
    if len(rows) > MOST_ROWS:
        return False
    return all([right_row(row, len(rows)) for row in rows])


# None where the text writes no row; whether the row is right in its program is asked later.
def read_row(text):
    parts = text.split(" ")
    if len(parts) == 1:
        return (text,)
    number = number_of(parts[1])
    if len(parts) > 2 or number is None:
        return None
    return (parts[0], number)


def read(text):
    if text == "":
        return []
    rows = [read_row(part) for part in text.split(PARTING)]
    if None in rows or not right(rows):
        raise NoCode("the text writes no right program")
    return rows


def shown_row(row):
    return " ".join([str(part) for part in row])


def shown(rows):
    return PARTING.join([shown_row(row) for row in rows])
