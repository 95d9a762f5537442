"""The refusals of the program: one class for each, all under BookError."""


class BookError(ValueError):
    pass


class NoShare(BookError):
    pass


class NoBook(BookError):
    pass


class Ring(BookError):
    def __init__(self, ring):
        BookError.__init__(self, f"the causes lead round: {ring!r}")
        # A copy, so that whoever made the error can't change what it tells.
        self.ring = list(ring)


class NoOrder(BookError):
    pass


class NoGround(BookError):
    pass


class NotTold(BookError):
    pass


class NoHidden(BookError):
    pass


class NoText(BookError):
    pass


class TooGreat(BookError):
    pass


class NoRow(BookError):
    pass


class NoName(BookError):
    pass


class NoValue(BookError):
    pass


class NoQuestion(BookError):
    pass
