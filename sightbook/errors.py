"""The refusals, a class for each reason."""


class SightError(ValueError):
    pass


class TooGreat(SightError):
    def __init__(self, number, most):
        SightError.__init__(self, f"{number} is more than {most}")
        self.number = number
        self.most = most


class NoRoom(SightError):
    def __init__(self, room):
        SightError.__init__(self, f"{room} is no room")
        self.room = room


class NoWord(SightError):
    def __init__(self, word):
        SightError.__init__(self, f"{word!r} is no word of one to eight small letters")
        self.word = word


class NoSight(SightError):
    def __init__(self, sign):
        SightError.__init__(self, f"nothing is possible behind the sign {sign!r}")
        self.sign = sign
