"""The refusals of a hall."""


class HallError(ValueError):
    pass


class NoThing(HallError):
    pass


class NoField(HallError):
    pass


class NoRoom(HallError):
    pass


class NotNow(HallError):
    pass
