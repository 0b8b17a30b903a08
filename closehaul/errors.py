"""The refusals: each stands straight beneath SailError, so that all of them can be taken at once, or one alone."""


class SailError(ValueError):
    pass


class NoFraction(SailError):
    pass


class NoText(SailError):
    pass


class NoShares(SailError):
    pass


class NoCourse(SailError):
    pass


class NoWind(SailError):
    pass


class NoDeed(SailError):
    pass
