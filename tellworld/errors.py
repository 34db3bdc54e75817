"""The refusals: all of them stand right under TellError, so that one except takes any of them."""


class TellError(ValueError):
    pass


class NoWorld(TellError):
    pass


class NoCommand(TellError):
    pass


class NoWish(TellError):
    pass


class Unlike(TellError):
    pass


class NoText(TellError):
    def __init__(self, row):
        self.row = row
