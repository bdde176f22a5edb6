"""The refusals: one class for each, all under LoomError."""


class LoomError(ValueError):
    pass


class NoLoom(LoomError):
    pass


class NoStep(LoomError):
    pass


class NoClaim(LoomError):
    pass


class NoText(LoomError):
    pass


class NoMove(LoomError):
    pass


class TooMany(LoomError):
    pass


class NoWay(LoomError):
    pass
