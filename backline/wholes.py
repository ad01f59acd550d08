"""What counts as a whole number [2]."""


def is_whole(value):
    # Python takes True and False for ints; here a truth is no number.
    return isinstance(value, int) and not isinstance(value, bool)
