"""The refusals. Where two are due, the one whose class stands first here goes first."""


class HallError(ValueError):
    pass


class NoWorld(HallError):
    pass


class NoPlayer(HallError):
    pass


class NoMark(HallError):
    pass


class NoSentence(HallError):
    pass


class NoRoom(HallError):
    pass


class NoWay(HallError):
    pass


class NoPlan(HallError):
    pass


class NoPaper(HallError):
    pass


class TooGreat(HallError):
    pass


class NoNote(HallError):
    pass
