"""The refusals: each stands straight under PressError, none under another."""


class PressError(ValueError):
    pass


class BadRow(PressError):
    pass


class BadBits(PressError):
    pass


class NoBits(PressError):
    pass


class BadShares(PressError):
    pass


class BadLengths(PressError):
    pass


class BadCode(PressError):
    pass


class BadTable(PressError):
    pass


class BadPieces(PressError):
    pass


class BadBody(PressError):
    pass


class BadHead(PressError):
    pass


class BadCheck(PressError):
    pass


class BadMark(PressError):
    pass


class BadTail(PressError):
    pass


class Cut(PressError):
    pass


class Behind(PressError):
    pass


class Over(PressError):
    pass


class NoRange(PressError):
    pass


class BadLetters(PressError):
    pass
