"""The refusals of bandwright: each stands right under WrightError."""


class WrightError(ValueError):
    pass


class NoWorld(WrightError):
    pass


class NoOver(WrightError):
    pass


class NoFit(WrightError):
    pass


class NoShape(WrightError):
    pass


class NoOrder(WrightError):
    pass


class NoSize(WrightError):
    pass


class NoLink(WrightError):
    pass


class Tied(WrightError):
    # The row is copied, and kept out of the error's own words: whoever made the error may still change his row.
    def __init__(self, move):
        WrightError.__init__(self, "a row that isn't all noughts is carried to noughts")
        self.move = list(move)
