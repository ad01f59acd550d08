"""Pictures: a sound line, taken by marks on the ways while the hands work on [25], [26]."""

from backline.errors import NoMark
from backline.errors import NoOrder
from backline.errors import NotDone
from backline.errors import TooSoon
from backline.lines import is_sent_within
from backline.lines import on_road
from backline.wholes import is_whole


class Picture:
    def __init__(self, loom, hand):
        if not loom.ordered:
            raise NoOrder("a picture wants ways that keep their order")
        loom.check_hand(hand)
        self.loom = loom
        # The loom knows nothing of its pictures: the rows done since are looked through when something is asked.
        self.seen = len(loom.rows())
        # From each hand whose place is taken to that place: a line, as far as there is one.
        self.stood = {}
        # The ways (sender, to) that have a mark on them, as the keys of a dict.
        self.marks = {}
        self.take_place(hand, loom.places()[hand])

    def come(self, sender, to):
        self.catch_up()
        if not self.has_mark(sender, to):
            raise NoMark("no mark is on this way")
        if self.is_letter_ahead(sender, to):
            raise TooSoon("a letter ahead of the mark is not used yet")
        self.bring_mark(sender, to, self.loom.places()[to])

    def is_done(self):
        self.catch_up()
        return len(self.stood) == self.loom.many and not self.marks

    def line(self):
        if not self.is_done():
            raise NotDone("a place is not taken yet, or a mark has not come")
        return [self.stood[hand] for hand in range(self.loom.many)]

    def letters(self):
        # Each mark came behind the use of all letters ahead of it, and ahead of that of all others: so what was
        # used between its user's place and the mark is what is on the road across the line.
        sent = self.loom.letters_sent()
        return [name for name in on_road(self.loom, self.line()) if sent[name][0] != name[0]]

    def catch_up(self):
        rows = self.loom.rows()
        uses = self.loom.letters_used()
        for row in rows[self.seen:]:
            if row[0] == "use" and self.is_behind_mark(row[2], row[1]):
                self.bring_mark(row[2][0], row[1], uses[row[2]] - 1)
        self.seen = len(rows)

    def has_mark(self, sender, to):
        return is_whole(sender) and is_whole(to) and (sender, to) in self.marks

    # A mark was put where its sender's place was taken: what the sender sent by then is ahead of it.
    def is_behind_mark(self, name, to):
        return self.has_mark(name[0], to) and not is_sent_within(self.stood, name)

    def is_letter_ahead(self, sender, to):
        sent = self.loom.letters_sent()
        waiting = [name for name in self.loom.road() if name[0] == sender and sent[name][0] == to]
        return any([is_sent_within(self.stood, name) for name in waiting])

    def bring_mark(self, sender, to, place):
        self.marks.pop((sender, to))
        if to not in self.stood:
            self.take_place(to, place)

    def take_place(self, hand, place):
        self.stood[hand] = place
        for to in range(self.loom.many):
            if to != hand:
                self.marks[(hand, to)] = True
