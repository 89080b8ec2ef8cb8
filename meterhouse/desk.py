"""The desk: rows of words are told to a house, and answered by texts."""

from meterhouse.codes import read, shown
from meterhouse.errors import NoRow
from meterhouse.figures import number_of
from meterhouse.house import House
from meterhouse.notes import show_paper


def read_number(text):
    number = number_of(text)
    if number is None:
        raise NoRow("a number is wanted in the row")
    return number


def read_numbers(parts):
    return [read_number(part) for part in parts]


# The blanks of the program are its own affair: what was parted there is joined again.
def admit_answer(house, parts):
    numbers = read_numbers(parts[:3])
    if len(numbers) < 3:
        raise NoRow("admit wants a slot, coin and a purse")
    program = read(" ".join(parts[3:]))
    house.admit(numbers[0], numbers[1], numbers[2], program)
    return "ok"


def letter_answer(told):
    return " ".join([str(part) for part in told[:4]])


def word_of(numbers):
    if len(numbers) == 5:
        return numbers[4]
    return 0


def send_answer(house, numbers):
    return letter_answer(house.send(numbers[0], numbers[1], numbers[2], numbers[3], word_of(numbers)))


def try_answer(house, numbers):
    return letter_answer(house.tried(numbers[0], numbers[1], numbers[2], numbers[3], word_of(numbers)))


def coin_answer(house, numbers):
    return str(house.coin_of(numbers[0]))


def purse_answer(house, numbers):
    return str(house.purse_of(numbers[0]))


def count_answer(house, numbers):
    return str(house.count_of(numbers[0]))


def load_answer(house, numbers):
    return str(house.loaded(numbers[0], numbers[1]))


def till_answer(house, numbers):
    return str(house.till())


def top_answer(house, numbers):
    return str(house.top())


def code_answer(house, numbers):
    return shown(house.program_of(numbers[0]))


def paper_answer(house, numbers):
    return show_paper(house.paper(numbers[0]))


# For each word that numbers alone follow: how many of them there may be.
COUNTS = {
    "send": (4, 5),
    "try": (4, 5),
    "coin": (1,),
    "purse": (1,),
    "count": (1,),
    "load": (2,),
    "till": (0,),
    "top": (0,),
    "code": (1,),
    "paper": (1,),
}

ANSWERS = {
    "send": send_answer,
    "try": try_answer,
    "coin": coin_answer,
    "purse": purse_answer,
    "count": count_answer,
    "load": load_answer,
    "till": till_answer,
    "top": top_answer,
    "code": code_answer,
    "paper": paper_answer,
}


class Desk:
    def __init__(self):
        self.house = House()

    def say(self, row):
        parts = row.split(" ")
        if parts[0] == "admit":
            return admit_answer(self.house, parts[1:])
        if parts[0] not in ANSWERS or len(parts) - 1 not in COUNTS[parts[0]]:
            raise NoRow("there is no such row")
        return ANSWERS[parts[0]](self.house, read_numbers(parts[1:]))
