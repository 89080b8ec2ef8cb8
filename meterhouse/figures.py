"""Numbers, and how they are written in figures."""

from meterhouse.words import WIDE

FIGURES = "0123456789"

# No number below WIDE has more figures than these.
MOST_FIGURES = 20


def is_number(whole):
    return 0 <= whole < WIDE


# The length is asked ahead of int, which has a refusal of its own for very long texts.
def well_written(text):
    if not 1 <= len(text) <= MOST_FIGURES:
        return False
    if text[0] == "0" and text != "0":
        return False
    return all([sign in FIGURES for sign in text])


def number_of(text):
    if not well_written(text):
        return None
    whole = int(text)
    if not is_number(whole):
        return None
    return whole
