"""Falls: where hands may go back to, and the greatest line for those that fell, with its paper [15] to [18]."""

from backline.errors import NoPoint
from backline.lines import is_sent_within
from backline.lines import is_sound
from backline.lines import is_used_within
from backline.looms import is_name
from backline.wholes import is_whole


def allowed_points(loom, fallen):
    allowed = []
    for hand, here in enumerate(loom.places()):
        points = loom.points(hand)
        # No point lies beyond where the hand stands, so only the last one can be there.
        if hand not in fallen and points[-1] != here:
            points.append(here)
        allowed.append(points)
    return allowed


# The way down from the greatest allowed points, letter by letter. Of each hand those
# allowed points are kept that are not passed yet: it is at the last one of them.
class Descent:
    def __init__(self, loom, fallen):
        self.posted = loom.letters_sent()
        self.taken = loom.letters_used()
        self.allowed = allowed_points(loom, fallen)

    def reached(self):
        return [points[-1] for points in self.allowed]

    def is_broken_by(self, name):
        if not is_name(name) or name not in self.taken:
            return False
        line = self.reached()
        return is_used_within(line, self.posted[name][0], self.taken[name]) and not is_sent_within(line, name)

    def can_step(self, name):
        return self.allowed[self.posted[name][0]][0] < self.taken[name]

    def step(self, name):
        points = self.allowed[self.posted[name][0]]
        while points[-1] >= self.taken[name]:
            points.pop()


def used_of_each(loom):
    used = [[] for hand in range(loom.many)]
    for name in sorted(loom.letters_used()):
        used[name[0]].append(name)
    return used


def sender_gone_back(used, line):
    for hand, names in enumerate(used):
        if names and not is_sent_within(line, names[-1]):
            return hand
    return None


def greatest_line(loom, fallen):
    descent = Descent(loom, fallen)
    used = used_of_each(loom)
    paper = []
    sender = sender_gone_back(used, descent.reached())
    while sender is not None:
        # Hands go down alone, so a letter that was looked at once never breaks the line later.
        name = used[sender].pop()
        if descent.is_broken_by(name):
            if not descent.can_step(name):
                raise NoPoint("no place ahead of the use of a letter can be had again")
            descent.step(name)
            paper.append(name)
        sender = sender_gone_back(used, descent.reached())
    return (descent.reached(), paper)


def is_list_of_wholes(value):
    return isinstance(value, list) and all([is_whole(part) for part in value])


def is_shown(loom, fallen, line, paper):
    if not is_list_of_wholes(line) or not isinstance(paper, list):
        return False
    descent = Descent(loom, fallen)
    for name in paper:
        if not descent.is_broken_by(name) or not descent.can_step(name):
            return False
        descent.step(name)
    return descent.reached() == line and is_sound(loom, line)
