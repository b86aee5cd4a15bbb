"""The refusals: each has a class of its own, straight under OvalError."""


class OvalError(ValueError):
    pass


class NoPrime(OvalError):
    pass


class NoOver(OvalError):
    pass


class NoTriple(OvalError):
    pass


class NoTable(OvalError):
    pass


class NoCount(OvalError):
    pass


class NoCurve(OvalError):
    pass


class NotWhole(OvalError):
    pass


class TooMany(OvalError):
    pass


class NoPicture(OvalError):
    pass


class NoRow(OvalError):
    pass


class NothingDone(OvalError):
    pass


class BadRow(OvalError):
    def __init__(self, row):
        OvalError.__init__(self, f"the text at place {row} can not be read")
        self.row = row


class Alike(OvalError):
    def __init__(self, triple):
        OvalError.__init__(self, f"{triple} stands there twice")
        self.triple = triple


class NotOn(OvalError):
    def __init__(self, triple):
        OvalError.__init__(self, f"{triple} does not lie there")
        self.triple = triple


class OnLine(OvalError):
    def __init__(self, points):
        OvalError.__init__(self, f"{points} lie on a line")
        self.points = points
