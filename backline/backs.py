"""Going back behind a fall, and rows done again on a new loom [19] to [21]."""

from backline.errors import NoRow
from backline.falls import greatest_line
from backline.looms import Loom


def fall(loom, fallen):
    found = greatest_line(loom, fallen)
    loom.go_to(found[0], fallen)
    return found


def do_row(loom, row):
    if row[0] == "own":
        loom.own(row[1])
    elif row[0] == "use":
        loom.use(row[1], row[2])
    elif row[0] == "write":
        loom.write(row[1])
    else:
        raise NoRow("a row is of an own deed, of a use or of a writing")


def again(does, starts, habits, ordered, rows):
    loom = Loom(does, starts, habits, ordered)
    for row in rows:
        do_row(loom, row)
    return loom
