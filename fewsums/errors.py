"""The refusals: one class for each, straight beneath SumError."""


class SumError(ValueError):
    pass


class NoChain(SumError):
    pass


class NoModulus(SumError):
    pass


class NoNumber(SumError):
    pass


class TooLong(SumError):
    pass


class NoNote(SumError):
    pass
