"""The refusals: one class each, all of them straight under RootError."""


class RootError(ValueError):
    pass


class NoNumber(RootError):
    pass


class NoInverse(RootError):
    pass


class NoPrime(RootError):
    pass


class IsPrime(RootError):
    pass


class NoRoot(RootError):
    pass


class NoPaper(RootError):
    pass


class NoText(RootError):
    pass


class NoForm(RootError):
    pass
