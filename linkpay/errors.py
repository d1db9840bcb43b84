"""The refusals of linkpay."""


class PayError(ValueError):
    pass


class NoRow(PayError):
    pass


class NoOpened(PayError):
    pass


class TooMany(PayError):
    pass


class NoAmount(PayError):
    pass


class NoPayment(PayError):
    pass


class NoCount(PayError):
    pass


class NoNote(PayError):
    pass
