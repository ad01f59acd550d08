"""What several tests share: programs of hands, weavings by chance, plain models of [4] to [19], lines by trying all."""

import itertools
import random

from backline.errors import WeaveError
from backline.habits import Bundle, Each, Never
from backline.looms import Loom
from backline.threads import Event


def event(state, used=None, sent=(), said=()):
    return Event(used, state, list(sent), list(said))


def script(deeds):
    """A program told deed by deed: from (hand, state, word) to (state, letters, words)."""
    def does(hand, state, word):
        return deeds[(hand, state, word)]
    return does


def counting(letters_of=None, words_of=None):
    """A program whose state counts deeds by one, with letters and words by (hand, new state)."""
    letters_of = letters_of or {}
    words_of = words_of or {}

    def does(hand, state, word):
        new = state + 1
        return new, letters_of.get((hand, new), []), words_of.get((hand, new), [])
    return does


def mixing(many, salt):
    """A program that sends none to three letters, says none to two words, and minds every argument."""
    def does(hand, state, word):
        new = (state * 31 + (7 if word is None else word * 5) + hand * 3 + salt) % 1009
        letters = [((new // 3 + k) % many, new * 4 + k) for k in range(new % 4)]
        return new, letters, [new + k for k in range(new % 3)]
    return does


def habit_of(number):
    return {0: Never, 1: Each}.get(number, lambda: Bundle(number))()


def told(loom):
    """All that a loom tells."""
    hands = range(loom.many)
    return {
        "many": loom.many, "ordered": loom.ordered, "places": loom.places(), "states": loom.states(),
        "road": loom.road(), "sent": loom.letters_sent(), "used": loom.letters_used(), "rows": loom.rows(),
        "words": [loom.words_of(hand) for hand in hands], "points": [loom.points(hand) for hand in hands],
    }


def but_points(all_told):
    return {key: value for key, value in all_told.items() if key != "points"}


def do_row(loom, row):
    if row[0] == "own":
        loom.own(row[1])
    elif row[0] == "use":
        loom.use(row[1], row[2])
    else:
        loom.write(row[1])


def done_again(does, starts, habits, ordered, rows):
    loom = Loom(does, starts, habits, ordered)
    for row in rows:
        do_row(loom, row)
    return loom


def may_use(loom, hand):
    """The names that a hand may use, by the words of [11]."""
    sent = loom.letters_sent()
    ways = {}
    for name in loom.road():
        if sent[name][0] == hand:
            ways.setdefault(name[0], []).append(name)
    if loom.ordered:
        return [names[0] for names in ways.values()]
    return [name for names in ways.values() for name in names]


def random_row(loom, chance):
    hand = chance.randrange(loom.many)
    draw = chance.randrange(10)
    if draw < 2:
        return ("write", hand)
    names = may_use(loom, hand)
    if draw < 7 and names:
        return ("use", hand, chance.choice(names))
    return ("own", hand)


class Weaving:
    """A loom of two to five hands of all habits that is woven by chance; made_of is what it was made of."""

    def __init__(self, seed):
        self.chance = random.Random(seed)
        many = 2 + seed % 4
        starts = [self.chance.randrange(-50, 50) for hand in range(many)]
        self.sizes = [self.chance.choice([0, 0, 1, 2, 3]) for hand in range(many)]
        self.made_of = (mixing(many, seed), starts, [habit_of(size) for size in self.sizes], seed % 8 < 4)
        self.loom = Loom(*self.made_of)

    def weave(self, turns):
        for turn in range(turns):
            do_row(self.loom, random_row(self.loom, self.chance))

    def some_hands(self):
        """Any of the hands, none and all among them, in any order."""
        return self.chance.sample(range(self.loom.many), self.chance.randrange(self.loom.many + 1))


def sets_of_hands(many):
    return [list(hands) for size in range(many + 1) for hands in itertools.combinations(range(many), size)]


def all_lines(loom):
    return [list(line) for line in itertools.product(*[range(place + 1) for place in loom.places()])]


def plainly_allowed(loom, fallen):
    """The allowed points, by the words of [15]."""
    return [
        sorted(set(loom.points(hand)) | (set() if hand in fallen else {here}))
        for hand, here in enumerate(loom.places())
    ]


def plainly_broken(loom, line):
    """The letters that break a line, by the words of [13]."""
    sent, used = loom.letters_sent(), loom.letters_used()
    return sorted(
        name for name, (to, word) in sent.items()
        if name in used and used[name] <= line[to] and name[1] > line[name[0]]
    )


def sound_lines(loom, fallen):
    """All lines that are allowed and sound for those that fell, by [13], [15], [16]."""
    sent, used = loom.letters_sent(), loom.letters_used()
    uses = [(name[0], name[1], sent[name][0], used[name]) for name in used]

    def sound(line):
        return not any(at <= line[user] and place > line[sender] for sender, place, user, at in uses)
    return [list(line) for line in itertools.product(*plainly_allowed(loom, fallen)) if sound(line)]


def greatest_by_search(loom, fallen):
    """The allowed and sound line that is at or beyond all others, by trying all [16]."""
    lines = sound_lines(loom, fallen)
    greatest = [max(places) for places in zip(*lines)]
    assert greatest in lines
    return greatest


def refused(case, error, call, *arguments):
    """The call is refused with just this error."""
    with case.assertRaises(WeaveError) as caught:
        call(*arguments)
    case.assertIs(type(caught.exception), error)


class PlainThread:
    """Points [4] to [9] word by word: each event bears a mark of its own whether it is written down."""

    def __init__(self, start, size):
        self.start, self.size = start, size
        self.states, self.written, self.piled, self.writings = [], [], [], {0}

    def do(self, state):
        self.states.append(state)
        self.written.append(self.size == 1)
        if self.size >= 2:
            self.piled.append(len(self.states))
            if len(self.piled) == self.size:
                self.write_piled()

    def write_piled(self):
        for number in self.piled:
            self.written[number - 1] = True
        self.piled = []

    def write(self):
        if len(self.states) not in self.writings:
            self.writings.add(len(self.states))
            self.write_piled()

    def points(self):
        found = set()
        for writing in self.writings:
            place = writing
            found.add(place)
            while place < len(self.states) and self.written[place]:
                place += 1
                found.add(place)
        return sorted(found)

    def state_at(self, place):
        if place not in self.points() and place != len(self.states):
            return None
        return ([self.start] + self.states)[place]

    def cut(self, place, stands):
        if stands and place == len(self.states):
            return True
        if place not in self.points():
            return False
        self.states, self.written, self.piled = self.states[:place], self.written[:place], []
        self.writings = {writing for writing in self.writings if writing <= place}
        return True

    def throw_ahead(self, place):
        ahead = sorted(writing for writing in self.writings if writing <= place)
        self.writings -= set(ahead[:-1])


class PlainLoom:
    """Points [10] to [12] and [19] word by word; a size of 0 stands for Never, 1 for Each."""

    def __init__(self, does, starts, sizes, ordered):
        self.does, self.starts, self.ordered = does, list(starts), ordered
        self.threads = [PlainThread(start, size) for start, size in zip(starts, sizes)]
        self.begin()

    def begin(self):
        self.now, self.deeds = list(self.starts), [0] * len(self.starts)
        self.said = [[] for start in self.starts]
        self.sent, self.used, self.done = [], {}, []

    def do(self, row):
        self.weave(row)
        thread = self.threads[row[1]]
        if row[0] == "write":
            thread.write()
        else:
            thread.do(self.now[row[1]])

    def weave(self, row):
        self.done.append(row)
        hand = row[1]
        if row[0] == "write":
            return
        word = {name: word for name, to, word in self.sent}[row[2]] if row[0] == "use" else None
        self.now[hand], letters, words = self.does(hand, self.now[hand], word)
        self.deeds[hand] += 1
        if row[0] == "use":
            self.used[row[2]] = self.deeds[hand]
        self.said[hand].append(list(words))
        self.sent += [((hand, self.deeds[hand], k), to, word) for k, (to, word) in enumerate(letters)]

    def usable(self, hand):
        """All names that a hand may use now; on a way that keeps its order the first one, as sent, of each sender."""
        waiting = sorted(name for name, to, word in self.sent if to == hand and name not in self.used)
        if not self.ordered:
            return waiting
        return [name for k, name in enumerate(waiting) if k == 0 or waiting[k - 1][0] != name[0]]

    def go_to(self, line, fallen):
        """As if the deeds behind the line had never been: only the rows left are woven, from the first one on."""
        rows = self.rows_left(line)
        self.begin()
        for row in rows:
            self.weave(row)
        for hand, thread in enumerate(self.threads):
            assert thread.cut(line[hand], hand not in fallen)

    def rows_left(self, line):
        left, stood = [], [0] * len(line)
        for row in self.done:
            if row[0] != "write":
                stood[row[1]] += 1
            if stood[row[1]] <= line[row[1]]:
                left.append(row)
        return left


def assert_same(case, loom, plain):
    """The loom tells all that the plain model tells."""
    case.assertEqual((loom.places(), loom.states()), (plain.deeds, plain.now))
    case.assertEqual(loom.letters_sent(), {name: (to, word) for name, to, word in plain.sent})
    case.assertEqual(loom.road(), sorted(name for name, to, word in plain.sent if name not in plain.used))
    case.assertEqual((loom.letters_used(), loom.rows()), (plain.used, plain.done))
    case.assertEqual([loom.words_of(hand) for hand in range(loom.many)], plain.said)
    case.assertEqual([loom.points(hand) for hand in range(loom.many)], [thread.points() for thread in plain.threads])
