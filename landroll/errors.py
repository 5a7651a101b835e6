"""The refusals of the program, each a class of its own straight under LandError."""


# Whoever wants to take any refusal takes this one.
class LandError(ValueError):
    pass


class BadFloor(LandError):
    pass


class BadTerm(LandError):
    pass


class BadCells(LandError):
    pass


class BadFraction(LandError):
    pass


class BadShares(LandError):
    pass


class TooLittle(LandError):
    pass


class TooFine(LandError):
    pass


class Late(LandError):
    pass


class Full(LandError):
    pass


class OtherKnown(LandError):
    pass


class NoText(LandError):
    pass


class NoRow(LandError):
    pass


# The place lets the asker find the thing of the row that is amiss.
class BadPaper(LandError):
    def __init__(self, text, place):
        LandError.__init__(self, text)
        self.place = place


# The word and who are what a run tells of a paper that doesn't fit.
class Falls(LandError):
    def __init__(self, text, word, who):
        LandError.__init__(self, text)
        self.word = word
        self.who = who
