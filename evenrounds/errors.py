"""The refusals of evenrounds, one class for each."""


class RoundError(ValueError):
    pass


class BadTable(RoundError):
    pass


class BadSeating(RoundError):
    pass


class Uneven(RoundError):
    pass


class NoText(RoundError):
    pass
