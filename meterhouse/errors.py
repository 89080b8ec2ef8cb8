"""The refusals. Each stands straight under HouseError, so that none is taken for another."""


class HouseError(ValueError):
    pass


class NoCode(HouseError):
    pass


class NoClash(HouseError):
    pass


class NoSlot(HouseError):
    pass


class Taken(HouseError):
    pass


class NoNumber(HouseError):
    pass


class TooMuch(HouseError):
    pass


class NoAccount(HouseError):
    pass


class NoLimit(HouseError):
    pass


class PoorPurse(HouseError):
    pass


class PoorCoin(HouseError):
    pass


class NoPaper(HouseError):
    pass


class NoRow(HouseError):
    pass
