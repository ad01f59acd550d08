"""Lines: a place for each hand, and the letters that break them or are on the road across them [13], [14]."""


# Within a line lies what was done at or ahead of it.
def is_sent_within(line, name):
    return name[1] <= line[name[0]]


def is_used_within(line, user, place):
    return place <= line[user]


def broken_by(loom, line):
    sent = loom.letters_sent()
    uses = loom.letters_used()
    names = [name for name in uses if is_used_within(line, sent[name][0], uses[name])]
    return sorted([name for name in names if not is_sent_within(line, name)])


def is_sound(loom, line):
    return not broken_by(loom, line)


def on_road(loom, line):
    sent = loom.letters_sent()
    uses = loom.letters_used()
    names = [name for name in sent if is_sent_within(line, name)]
    return sorted([name for name in names if name not in uses or not is_used_within(line, sent[name][0], uses[name])])


def joined(one, other):
    return [max(pair) for pair in zip(one, other)]


def met_of(one, other):
    return [min(pair) for pair in zip(one, other)]
