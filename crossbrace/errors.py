"""The refusals of the program, each one under BraceError and under none of the others."""


class BraceError(ValueError):
    pass


class NoFloor(BraceError):
    pass


class Apart(BraceError):
    pass


class Hollow(BraceError):
    pass


class NoText(BraceError):
    pass


class NoRow(BraceError):
    pass


class NoField(BraceError):
    pass


class NoDeed(BraceError):
    pass
