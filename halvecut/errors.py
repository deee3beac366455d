"""The refusals of the program, one class for each, side by side under PlaneError."""


class PlaneError(ValueError):
    pass


class NoPlace(PlaneError):
    pass


class NoLine(PlaneError):
    pass


class NoDots(PlaneError):
    pass


class NoMap(PlaneError):
    pass


class TooFew(PlaneError):
    pass


class TooMany(PlaneError):
    pass


class NoSuch(PlaneError):
    pass


class NoText(PlaneError):
    pass


class NoAsk(PlaneError):
    pass
