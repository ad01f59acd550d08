"""Looms: hands that do deeds, use one another's letters, and go back [10] to [12], [19], [20]."""

from backline.errors import NoHand
from backline.errors import NoLetter
from backline.errors import NoPoint
from backline.threads import Event
from backline.threads import Thread
from backline.wholes import is_whole


def is_name(value):
    if not isinstance(value, tuple) or len(value) != 3:
        return False
    return all([is_whole(part) for part in value])


class Loom:
    def __init__(self, does, starts, habits, ordered):
        self.does = does
        self.many = len(starts)
        self.ordered = ordered
        self.threads = [Thread(start, habit) for start, habit in zip(starts, habits)]
        # Each row with the hand's place behind it, by which a going back chooses.
        self.log = []
        self.posted = {}
        self.taken = {}
        # From (sender, to) to the names on the road there, as the keys of a dict.
        self.ways = {}

    def own(self, hand):
        self.check_hand(hand)
        self.do_deed(hand, None, None)
        self.note_row(hand, ("own", hand))

    def use(self, hand, name):
        self.check_hand(hand)
        if not self.may_use(hand, name):
            raise NoLetter("this letter may not be used by this hand now")
        self.do_deed(hand, name, self.posted[name][1])
        self.note_row(hand, ("use", hand, name))

    def write(self, hand):
        self.check_hand(hand)
        self.threads[hand].write()
        self.note_row(hand, ("write", hand))

    def places(self):
        return [thread.here() for thread in self.threads]

    def states(self):
        return [thread.state_at(thread.here()) for thread in self.threads]

    def road(self):
        return sorted([name for name in self.posted if name not in self.taken])

    def letters_sent(self):
        return dict(self.posted)

    def letters_used(self):
        return dict(self.taken)

    def words_of(self, hand):
        self.check_hand(hand)
        return [event.said for event in self.threads[hand].events()]

    def points(self, hand):
        self.check_hand(hand)
        return self.threads[hand].points()

    def rows(self):
        return [entry[0] for entry in self.log]

    def go_to(self, line, fallen):
        # All hands are asked ahead of the first cut: what is refused changes nothing.
        for hand, thread in enumerate(self.threads):
            if not thread.can_cut(line[hand], hand not in fallen):
                raise NoPoint("a hand can't go back to its place on this line")
        for hand, thread in enumerate(self.threads):
            thread.cut(line[hand], hand not in fallen)
        self.log = [entry for entry in self.log if entry[1] <= line[entry[0][1]]]
        self.reckon_letters()

    def throw_ahead(self, hand, place):
        self.check_hand(hand)
        self.threads[hand].throw_ahead(place)

    def check_hand(self, hand):
        if not is_whole(hand) or hand < 0 or hand >= self.many:
            raise NoHand("the loom hasn't this hand")

    def may_use(self, hand, name):
        if not is_name(name):
            return False
        way = self.ways.get((name[0], hand), {})
        if name not in way:
            return False
        # The names on one way share their sender, so the least one was sent first.
        return not self.ordered or name == min(way)

    def do_deed(self, hand, name, word):
        thread = self.threads[hand]
        led = self.does(hand, thread.state_at(thread.here()), word)
        event = Event(name, led[0], led[1], led[2])
        thread.do(event)
        if name is not None:
            self.taken[name] = thread.here()
            self.ways[(name[0], hand)].pop(name)
        self.post(hand, thread.here(), event.sent)

    def note_row(self, hand, row):
        self.log.append((row, self.threads[hand].here()))

    def post(self, sender, place, letters):
        for k, letter in enumerate(letters):
            name = (sender, place, k)
            self.posted[name] = letter
            if name not in self.taken:
                way = self.ways.setdefault((sender, letter[0]), {})
                way[name] = True

    def reckon_letters(self):
        self.posted = {}
        self.taken = {}
        self.ways = {}
        told = [thread.events() for thread in self.threads]
        # Uses first, so that only what none has used is put on its way.
        for events in told:
            for place, event in enumerate(events, start=1):
                if event.used is not None:
                    self.taken[event.used] = place
        for hand, events in enumerate(told):
            for place, event in enumerate(events, start=1):
                self.post(hand, place, event.sent)
