"""The refusals, each one a class of its own, so that it can be told from all the others by name."""


class JoinError(ValueError):
    pass


class TooMuch(JoinError):
    pass


class NoLine(JoinError):
    pass


class NoNest(JoinError):
    pass


class NoName(JoinError):
    pass


class NoKind(JoinError):
    pass


class Hangs(JoinError):
    pass


class NoSteps(JoinError):
    pass


class NoBoxes(JoinError):
    pass


class NoTurn(JoinError):
    pass


class NoHead(JoinError):
    pass
