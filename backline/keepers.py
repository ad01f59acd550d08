"""Keepers: what the world is told, and what is thrown away [22] to [24]."""

from backline.falls import greatest_line


def base_of(loom):
    return greatest_line(loom, list(range(loom.many)))[0]


def words_between(loom, hand, start, end):
    words = []
    for place, said in enumerate(loom.words_of(hand), start=1):
        if place > start and place <= end:
            words.extend([(hand, place, word) for word in said])
    return words


class Keeper:
    def __init__(self, loom):
        self.loom = loom
        self.told = []
        # For each hand the place up to which its words are told: no base goes back behind it [22].
        self.ends = [0 for hand in range(loom.many)]

    def tell(self):
        told = []
        for hand, place in enumerate(base_of(self.loom)):
            told.extend(words_between(self.loom, hand, self.ends[hand], place))
            self.ends[hand] = max(self.ends[hand], place)
        self.told.extend(told)
        return told

    def heard(self):
        return list(self.told)

    def throw(self):
        for hand, place in enumerate(base_of(self.loom)):
            self.loom.throw_ahead(hand, place)
