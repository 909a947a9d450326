"""The refusals of the program: all stand under PieceError, none under another."""


class PieceError(ValueError):
    pass


class NoSource(PieceError):
    pass


class NoBook(PieceError):
    pass


class NoPiece(PieceError):
    pass


class NoLetters(PieceError):
    pass


class NoWord(PieceError):
    pass


class NoSize(PieceError):
    pass


class NoText(PieceError):
    pass


class NoStep(PieceError):
    pass
