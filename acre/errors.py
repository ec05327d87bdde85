"""The refusals, so that an asker can take each by its name, or all as one."""


class AcreError(ValueError):
    pass


class NoNumber(AcreError):
    pass


class NoPoint(AcreError):
    pass


class NoStretch(AcreError):
    pass


class NoName(AcreError):
    pass


class NoText(AcreError):
    pass


class NoRow(AcreError):
    pass
