"""The refusals of the program."""


class TownError(ValueError):
    pass


class BadRow(TownError):
    def __init__(self, row):
        self.row = row


class BadLine(TownError):
    def __init__(self, row):
        self.row = row


class BadKind(TownError):
    def __init__(self, place):
        self.place = place


class Lacking(TownError):
    def __init__(self, name):
        self.name = name


class GivenTwice(TownError):
    def __init__(self, name):
        self.name = name


class TooLong(TownError):
    pass


class NoRoom(TownError):
    pass


class NoFile(TownError):
    pass
