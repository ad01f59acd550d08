"""Orders: what a row of text at the desk asks for [30], [31]."""

from backline.errors import NoRow
from backline.errors import NoSize
from backline.figures import MOST_FIGURES
from backline.figures import are_numbers
from backline.figures import is_number
from backline.habits import Bundle
from backline.habits import Each
from backline.habits import Never
from backline.weavetexts import row_in

BARE_ORDERS = ("show", "road", "rows", "tell", "heard", "throw")
WAYS = {"ordered": True, "free": False}
MOST_FIGURES_OF_LOOMS = 10
GREATEST_NUMBER = 1000000000
SMALLEST_DIVISOR = 1
FEWEST_HANDS = 2
MOST_HANDS = 5


# Each of the readers tells None where there is nothing of its kind.
def hands_in(word):
    if word == "-":
        return []
    parts = word.split(",")
    if not are_numbers(parts, MOST_FIGURES):
        return None
    hands = [int(part) for part in parts]
    return hands if hands == sorted(set(hands)) else None


def program_in(words):
    if not are_numbers(words, MOST_FIGURES_OF_LOOMS):
        return None
    numbers = [int(word) for word in words]
    if max(numbers) > GREATEST_NUMBER or numbers[3] < SMALLEST_DIVISOR:
        return None
    return numbers


def habit_in(word):
    if word == "never":
        return Never()
    if word == "each":
        return Each()
    if not is_number(word, MOST_FIGURES):
        return None
    try:
        return Bundle(int(word))
    except NoSize:
        return None


def habits_in(pairs):
    habits = [habit_in(pair.partition(":")[0]) for pair in pairs]
    return None if None in habits else habits


def starts_in(pairs):
    starts = [pair.partition(":")[2] for pair in pairs]
    if not are_numbers(starts, MOST_FIGURES_OF_LOOMS):
        return None
    return [int(start) for start in starts]


def loom_order(words):
    pairs = words[6:]
    if len(pairs) < FEWEST_HANDS or len(pairs) > MOST_HANDS or words[1] not in WAYS:
        return None
    numbers = program_in(words[2:6])
    habits = habits_in(pairs)
    starts = starts_in(pairs)
    if numbers is None or habits is None or starts is None:
        return None
    return ("loom", WAYS[words[1]], numbers, habits, starts)


def points_order(words):
    if len(words) != 2 or not is_number(words[1], MOST_FIGURES):
        return None
    return ("points", int(words[1]))


def line_order(words):
    hands = hands_in(words[1]) if len(words) == 2 else None
    return None if hands is None else (words[0], hands)


def order_in(text):
    if text in BARE_ORDERS:
        return (text,)
    words = text.split(" ")
    if words[0] == "loom":
        return loom_order(words)
    if words[0] == "points":
        return points_order(words)
    if words[0] in ("line", "fall"):
        return line_order(words)
    return row_in(text)


def order_of(row):
    order = order_in(row) if isinstance(row, str) else None
    if order is None:
        raise NoRow("this is no row of the desk")
    return order
