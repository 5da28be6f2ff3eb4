"""The refusals: each has a class of its own, and all stand under SayError."""


class SayError(ValueError):
    pass


class BadSay(SayError):
    pass


class BadLine(SayError):
    pass


class FullBook(SayError):
    pass


class EmptyBook(SayError):
    pass


class NoSetting(SayError):
    pass
