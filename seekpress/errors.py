"""The refusals: one base, and each of the others straight under it [2]."""


class PressError(ValueError):
    pass


class NoBits(PressError):
    pass


class NoRule(PressError):
    pass


class NoRepeat(PressError):
    pass


class NoCode(PressError):
    pass


class NoBlock(PressError):
    pass


class NoThing(PressError):
    pass


class NoKids(PressError):
    pass


class NoHold(PressError):
    pass


class NoMake(PressError):
    pass


class NoName(PressError):
    pass


class Twice(PressError):
    pass


class NoPlace(PressError):
    pass


class NoText(PressError):
    pass


class NoRow(PressError):
    pass


class Broken(PressError):
    def __init__(self, place):
        PressError.__init__(self, f"broken at {place}")
        self.place = place
