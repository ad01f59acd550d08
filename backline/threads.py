"""Threads: what one hand has done, and which places of it can be had again [4] to [9]."""

from backline.errors import NoPoint
from backline.wholes import is_whole


class Event:
    def __init__(self, used, state, sent, said):
        self.used = used
        self.state = state
        self.sent = [tuple(letter) for letter in sent]
        self.said = list(said)


def copy_of(event):
    return Event(event.used, event.state, event.sent, event.said)


class Thread:
    def __init__(self, start, habit):
        self.first = start
        self.habit = habit
        self.done = []
        # Rising, and never empty: what is cut or thrown away always leaves one.
        self.writings = [0]
        self.down = 0

    def here(self):
        return len(self.done)

    def events(self):
        return [copy_of(event) for event in self.done]

    def do(self, event):
        # A copy, so that the asker's event stays the asker's own.
        self.done.append(copy_of(event))
        self.down = self.habit.down_by_deed(self.down, self.here())

    def write(self):
        if self.here() in self.writings:
            return
        self.writings.append(self.here())
        self.down = self.habit.down_by_writing(self.down, self.here())

    def points(self):
        written = list(range(self.writings[0], self.down + 1))
        return sorted(set(written) | set(self.writings))

    def is_here(self, place):
        return is_whole(place) and place == self.here()

    def is_point(self, place):
        if not is_whole(place):
            return False
        if place in self.writings:
            return True
        return place >= self.writings[0] and place <= self.down

    def state_at(self, place):
        if not self.is_here(place) and not self.is_point(place):
            raise NoPoint("this place can't be had again")
        if place == 0:
            return self.first
        return self.done[place - 1].state

    def can_cut(self, place, stands):
        if stands and self.is_here(place):
            return True
        return self.is_point(place)

    def cut(self, place, stands):
        if not self.can_cut(place, stands):
            raise NoPoint("a thread is cut at a point alone")
        if stands and self.is_here(place):
            return
        self.done = self.done[:place]
        self.writings = [writing for writing in self.writings if writing <= place]
        self.down = min(self.down, place)

    def throw_ahead(self, place):
        # Where no writing is at or ahead of the place, 0 keeps them all.
        kept = max([writing for writing in self.writings if writing <= place], default=0)
        self.writings = [writing for writing in self.writings if writing >= kept]
