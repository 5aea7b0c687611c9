"""The refusals of the program: each stands straight under ShelfError."""

from farshelf.copying import own_copy


class ShelfError(ValueError):
    pass


# A field must stay as it was when the error was made, whatever becomes of the list it was made from.
class NoOrder(ShelfError):
    def __init__(self, fault):
        self.fault = own_copy(fault)


class NoMend(ShelfError):
    pass


class Waiting(ShelfError):
    pass


class Ring(ShelfError):
    def __init__(self, ring):
        self.ring = own_copy(ring)


class Busy(ShelfError):
    pass


class NoSession(ShelfError):
    pass


class NotAlone(ShelfError):
    pass


class BadEvent(ShelfError):
    pass


class NoRow(ShelfError):
    def __init__(self, row):
        self.row = row
