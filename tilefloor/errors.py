"""The refusals, each a class of its own under FloorError."""


class FloorError(ValueError):
    pass


class BadFloor(FloorError):
    pass


class BadLaying(FloorError):
    pass


class TooMany(FloorError):
    pass


class NoTurn(FloorError):
    pass


class NotPlain(FloorError):
    pass


class BadText(FloorError):
    pass
