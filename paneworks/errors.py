"""The refusals: one base, and one class for each."""


class PaneError(ValueError):
    pass


class NoNumber(PaneError):
    pass


class NoSpace(PaneError):
    pass


class NoFile(PaneError):
    pass


class NoPage(PaneError):
    pass


class NoRight(PaneError):
    pass


class Taken(PaneError):
    pass


class Held(PaneError):
    pass


class Full(PaneError):
    pass


class NoRow(PaneError):
    pass
