"""The refusals: one class for each kind, all straight under HallError."""


class HallError(ValueError):
    """Any refusal."""


class BadName(HallError):
    """A house may not be called so."""


class Taken(HallError):
    """Another house has the name already."""


class BadCoins(HallError):
    """An amount that is not allowed here."""


class Full(HallError):
    """There is no room for one more."""


class NoHouse(HallError):
    """No house has the name."""


class NoCoins(HallError):
    """The purse holds fewer coins."""


class Failed(HallError):
    """The house is failed."""


class Standing(HallError):
    """The house stands open."""


class BadCount(HallError):
    """A count of days that is not allowed."""


class BadDay(HallError):
    """A due day that is not allowed."""


class NoBill(HallError):
    """No bill has the number."""


class Void(HallError):
    """The copy is not the present one."""


class Closed(HallError):
    """The state of the bill no longer allows it."""


class Accepted(HallError):
    """The drawee accepted already."""


class Same(HallError):
    """The house holds the bill already."""


class NotBlank(HallError):
    """The back of the bill is not in blank."""


class NotYet(HallError):
    """The due day is not reached."""


class NotPresented(HallError):
    """The bill is still running."""


class Protested(HallError):
    """The bill is protested already."""


class TooLate(HallError):
    """The days for a protest are over."""


class NotBound(HallError):
    """The place is not an open place of the bill."""


class CantPay(HallError):
    """The house can't pay the amount."""


class NotProtested(HallError):
    """The bill is unpaid, but not protested."""


class IsBound(HallError):
    """The house stands at an open place itself."""


class Twice(HallError):
    """A name stands twice."""


class NoMoment(HallError):
    """The story has no such moment."""


class BadLine(HallError):
    """A line, by its number `at` from 1, that writes no deed or a refused one."""

    def __init__(self, at):
        self.at = at
