"""The refusals. Each stands straight under LadderError, so that taking one never takes another one."""


class LadderError(ValueError):
    pass


class NoNumber(LadderError):
    pass


class NoRing(LadderError):
    pass


class NoPart(LadderError):
    pass


class NoRow(LadderError):
    pass


class NoRung(LadderError):
    pass


class NoRelation(LadderError):
    pass


class NoMap(LadderError):
    pass


class NoTurn(LadderError):
    pass


class NoText(LadderError):
    pass


class NoName(LadderError):
    pass


class TooMany(LadderError):
    pass
