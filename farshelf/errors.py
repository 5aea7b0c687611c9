"""The refusals of the program: each stands straight under ShelfError."""


# A field must stay as it was when the error was made, whatever becomes of the list it was made from.
def own_copy(value):
    if isinstance(value, list):
        return [own_copy(part) for part in value]
    if isinstance(value, tuple):
        return tuple([own_copy(part) for part in value])
    return value


class ShelfError(ValueError):
    pass


class NoOrder(ShelfError):
    def __init__(self, fault):
        self.fault = own_copy(fault)


class NoMend(ShelfError):
    pass


class Waiting(ShelfError):
    pass


class Ring(ShelfError):
    def __init__(self, ring):
        self.ring = own_copy(ring)


class Busy(ShelfError):
    pass


class NoSession(ShelfError):
    pass


class NotAlone(ShelfError):
    pass


class BadEvent(ShelfError):
    pass


class NoRow(ShelfError):
    def __init__(self, row):
        self.row = row
