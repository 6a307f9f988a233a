"""The refusals: each stands under SheetError, none under another."""


class SheetError(ValueError):
    pass


class NoSheet(SheetError):
    pass


class NoCell(SheetError):
    pass


class NoPiece(SheetError):
    pass


class NoNumber(SheetError):
    pass


class NoWants(SheetError):
    pass


class NoText(SheetError):
    pass
