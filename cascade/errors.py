"""The refusals of the program."""


class HallError(ValueError):
    pass


class NoMachine(HallError):
    pass


class TooMany(HallError):
    def __init__(self, most):
        HallError.__init__(self, f"there are more than {most}")
        self.most = most


class NoText(HallError):
    pass


class NoRow(HallError):
    pass


class NoName(HallError):
    pass
