"""The refusals of the program."""


class TwinError(ValueError):
    pass


class BadCode(TwinError):
    pass
