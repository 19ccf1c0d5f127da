"""The refusals. No number that was handed in stands in their words: it may be of any size."""


class DotError(ValueError):
    pass


class NoPicture(DotError):
    pass


class OutOfPicture(DotError):
    pass


class NoMeet(DotError):
    pass


class NoTile(DotError):
    pass


class NoInks(DotError):
    pass


class NoShares(DotError):
    pass


class NoShade(DotError):
    pass


class NoStretches(DotError):
    pass


class NoWay(DotError):
    pass


class NoText(DotError):
    def __init__(self, line):
        DotError.__init__(self, f"row {line} of the text is not as told")
        self.line = line
