"""The habits by which a thread writes down its events [5]."""

from backline.errors import NoSize
from backline.wholes import is_whole

SMALLEST_SIZE = 1
GREATEST_SIZE = 20


# A thread's events are always written down from the first one on without a gap,
# so one number, down, tells which ones are. A habit tells that number anew
# behind a deed and behind a writing; here is how many events there are by then.
class Habit:
    def down_by_deed(self, down, here):
        return down

    def down_by_writing(self, down, here):
        return down


class Never(Habit):
    pass


class Each(Habit):
    def down_by_deed(self, down, here):
        return here


class Bundle(Habit):
    def __init__(self, size):
        # No word of the size stands in the refusal: a very long number can't be shown.
        if not is_whole(size) or size < SMALLEST_SIZE or size > GREATEST_SIZE:
            raise NoSize("the size of a bundle is a whole number from 1 to 20")
        self.size = size

    def down_by_deed(self, down, here):
        if here - down >= self.size:
            return here
        return down

    def down_by_writing(self, down, here):
        return here
