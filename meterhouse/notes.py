"""The texts of papers."""

from meterhouse.errors import NoPaper
from meterhouse.figures import number_of

PARTING = " / "
MOST_STAMPS = 60


def shown_numbers(numbers):
    return " ".join([str(number) for number in numbers])


def show_paper(paper):
    return PARTING.join([str(paper[0]), shown_numbers(paper[1]), shown_numbers(paper[2])])


def read_number(text):
    number = number_of(text)
    if number is None:
        raise NoPaper("a thing of the paper is no number")
    return number


def read_numbers(text):
    if text == "":
        return []
    return [read_number(part) for part in text.split(" ")]


def read_paper(text):
    parts = text.split(PARTING)
    if len(parts) != 3:
        raise NoPaper("a paper has a place, numbers and a way")
    place = read_number(parts[0])
    numbers = read_numbers(parts[1])
    way = read_numbers(parts[2])
    if len(way) > MOST_STAMPS:
        raise NoPaper("a way has at most 60 stamps")
    return (place, numbers, way)
