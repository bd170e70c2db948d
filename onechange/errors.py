"""The refusals of the program."""


class ChangeError(ValueError):
    pass


class NoListing(ChangeError):
    pass


class NoThing(ChangeError):
    pass


class NoNumber(ChangeError):
    pass


class NoState(ChangeError):
    pass


class NoMove(ChangeError):
    pass


class TooFar(ChangeError):
    pass
