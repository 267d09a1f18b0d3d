"""The refusals: each has a class of its own, and all stand under MadeError."""


class MadeError(ValueError):
    pass


class NoName(MadeError):
    def __init__(self, name):
        MadeError.__init__(self, f"no such name: {name!r}")
        self.name = name


class Ring(MadeError):
    def __init__(self, ring):
        MadeError.__init__(self, "a name was looked for on the way to its own worth")
        # A copy, so that whoever made the error can go on with its list.
        self.ring = list(ring)


class NoRead(MadeError):
    pass


class NoRecord(MadeError):
    pass


class NoDeed(MadeError):
    pass


class NoText(MadeError):
    pass


class NoRow(MadeError):
    pass
