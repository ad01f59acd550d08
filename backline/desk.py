"""The desk: it is told rows of text, and answers each by a text [30], [31]."""

from backline.backs import do_row
from backline.backs import fall
from backline.errors import NoLoom
from backline.falls import greatest_line
from backline.keepers import Keeper
from backline.looms import Loom
from backline.orders import order_of
from backline.programs import program_of
from backline.weavetexts import rows_shown


def spaced(numbers):
    return " ".join([str(number) for number in numbers])


def dotted(numbers):
    return ".".join([str(number) for number in numbers])


def list_shown(tuples):
    return " ".join([dotted(numbers) for numbers in tuples]) if tuples else "none"


def hands_shown(loom):
    return " ".join([f"{place}:{state}" for place, state in zip(loom.places(), loom.states())])


def loom_of(order):
    numbers = order[2]
    starts = order[4]
    does = program_of(numbers[0], numbers[1], numbers[2], numbers[3], len(starts))
    return Loom(does, starts, order[3], order[1])


class Desk:
    def __init__(self):
        self.loom = None
        self.keeper = None

    def say(self, row):
        order = order_of(row)
        if order[0] == "loom":
            return self.begin(loom_of(order))
        if self.loom is None:
            raise NoLoom("the desk has no loom yet")
        if order[0] in ("line", "fall"):
            return self.go_back(order[0], order[1])
        if order[0] in ("tell", "heard", "throw"):
            return self.ask_keeper(order[0])
        if order[0] in ("own", "use", "write"):
            do_row(self.loom, order)
            return "ok"
        return self.show(order)

    def begin(self, loom):
        self.loom = loom
        self.keeper = Keeper(loom)
        return "ok"

    def go_back(self, kind, hands):
        for hand in hands:
            self.loom.check_hand(hand)
        found = greatest_line(self.loom, hands) if kind == "line" else fall(self.loom, hands)
        return spaced(found[0])

    def ask_keeper(self, kind):
        if kind == "tell":
            return list_shown(self.keeper.tell())
        if kind == "heard":
            return list_shown(self.keeper.heard())
        self.keeper.throw()
        return "ok"

    def show(self, order):
        if order[0] == "show":
            return hands_shown(self.loom)
        if order[0] == "road":
            return list_shown(self.loom.road())
        if order[0] == "points":
            return spaced(self.loom.points(order[1]))
        return rows_shown(self.loom.rows())
