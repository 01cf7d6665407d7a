"""What the program refuses with."""


class RiseError(ValueError):
    pass


class NoRule(RiseError):
    pass


class NoPlace(RiseError):
    pass


class NoStep(RiseError):
    pass


class NoHouse(RiseError):
    pass


class NoMap(RiseError):
    pass


class TooGreat(RiseError):
    pass


class NoText(RiseError):
    pass
