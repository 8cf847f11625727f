"""The refusals: one class for each kind, all straight under HallError.

Each has the name of its class as `word`: so a desk answers it. What it is made with is its message.
"""


class HallError(ValueError):
    """Any refusal."""


class BadName(HallError):
    """A house may not be called so."""

    def __init__(self, why):
        self.word = "BadName"


class Taken(HallError):
    """Another house has the name already."""

    def __init__(self, why):
        self.word = "Taken"


class BadCoins(HallError):
    """An amount that is not allowed here."""

    def __init__(self, why):
        self.word = "BadCoins"


class Full(HallError):
    """There is no room for one more."""

    def __init__(self, why):
        self.word = "Full"


class NoHouse(HallError):
    """No house has the name."""

    def __init__(self, why):
        self.word = "NoHouse"


class NoCoins(HallError):
    """The purse holds fewer coins."""

    def __init__(self, why):
        self.word = "NoCoins"


class Failed(HallError):
    """The house is failed."""

    def __init__(self, why):
        self.word = "Failed"


class Standing(HallError):
    """The house stands open."""

    def __init__(self, why):
        self.word = "Standing"


class BadCount(HallError):
    """A count of days that is not allowed."""

    def __init__(self, why):
        self.word = "BadCount"


class BadDay(HallError):
    """A due day that is not allowed."""

    def __init__(self, why):
        self.word = "BadDay"


class NoBill(HallError):
    """No bill has the number."""

    def __init__(self, why):
        self.word = "NoBill"


class Void(HallError):
    """The copy is not the present one."""

    def __init__(self, why):
        self.word = "Void"


class Closed(HallError):
    """The state of the bill no longer allows it."""

    def __init__(self, why):
        self.word = "Closed"


class Accepted(HallError):
    """The drawee accepted already."""

    def __init__(self, why):
        self.word = "Accepted"


class Same(HallError):
    """The house holds the bill already."""

    def __init__(self, why):
        self.word = "Same"


class NotBlank(HallError):
    """The back of the bill is not in blank."""

    def __init__(self, why):
        self.word = "NotBlank"


class NotYet(HallError):
    """The due day is not reached."""

    def __init__(self, why):
        self.word = "NotYet"


class NotPresented(HallError):
    """The bill is still running."""

    def __init__(self, why):
        self.word = "NotPresented"


class Protested(HallError):
    """The bill is protested already."""

    def __init__(self, why):
        self.word = "Protested"


class TooLate(HallError):
    """The days for a protest are over."""

    def __init__(self, why):
        self.word = "TooLate"


class NotBound(HallError):
    """The place is not an open place of the bill."""

    def __init__(self, why):
        self.word = "NotBound"


class CantPay(HallError):
    """The house can't pay the amount."""

    def __init__(self, why):
        self.word = "CantPay"


class NotProtested(HallError):
    """The bill is unpaid, but not protested."""

    def __init__(self, why):
        self.word = "NotProtested"


class IsBound(HallError):
    """The house stands at an open place itself."""

    def __init__(self, why):
        self.word = "IsBound"


class Twice(HallError):
    """A name stands twice."""

    def __init__(self, why):
        self.word = "Twice"


class NoMoment(HallError):
    """The story has no such moment."""

    def __init__(self, why):
        self.word = "NoMoment"


class BadLine(HallError):
    """A line, by its number `at` from 1, that writes no deed or a refused one."""

    def __init__(self, at):
        self.word = "BadLine"
        self.at = at
