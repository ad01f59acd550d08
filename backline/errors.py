"""The refusals of the whole program, each straight under one base."""


class WeaveError(ValueError):
    pass


class NoSize(WeaveError):
    pass


class NoPoint(WeaveError):
    pass


class NoHand(WeaveError):
    pass


class NoLetter(WeaveError):
    pass


class NoOrder(WeaveError):
    pass


class NoMark(WeaveError):
    pass


class TooSoon(WeaveError):
    pass


class NotDone(WeaveError):
    pass


class NoText(WeaveError):
    pass


class NoRow(WeaveError):
    pass


class NoLoom(WeaveError):
    pass
