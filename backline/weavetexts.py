"""Rows of a loom as texts, and read back [29]."""

from backline.errors import NoText
from backline.figures import MOST_FIGURES
from backline.figures import are_numbers

# How many numbers stand behind each word.
NUMBERS_BEHIND = {"own": 1, "use": 4, "write": 1}


def row_shown(row):
    numbers = [row[1]]
    if row[0] == "use":
        numbers.extend(row[2])
    return " ".join([row[0]] + [str(number) for number in numbers])


def rows_shown(rows):
    return "\n".join([row_shown(row) for row in rows])


# The row that a text shows, or None where it shows none.
def row_in(text):
    words = text.split(" ")
    if words[0] not in NUMBERS_BEHIND or len(words) - 1 != NUMBERS_BEHIND[words[0]]:
        return None
    if not are_numbers(words[1:], MOST_FIGURES):
        return None
    numbers = [int(word) for word in words[1:]]
    if words[0] == "use":
        return ("use", numbers[0], (numbers[1], numbers[2], numbers[3]))
    return (words[0], numbers[0])


def read_rows(text):
    if not isinstance(text, str):
        raise NoText("rows are read from a text alone")
    if text == "":
        return []
    rows = [row_in(line) for line in text.split("\n")]
    if None in rows:
        raise NoText("a row of this text is none of a loom")
    return rows
