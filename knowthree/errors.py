"""The refusals of the program, one class for each."""


class HallError(ValueError):
    pass


class NoGuest(HallError):
    pass


class SameGuest(HallError):
    pass


class KnowAlready(HallError):
    pass


class Strangers(HallError):
    pass


class BadHall(HallError):
    pass


class NoText(HallError):
    pass
