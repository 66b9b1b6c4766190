"""The refusals of the package."""


class KnockError(ValueError):
    """Any refusal."""


class NoBeat(KnockError):
    """What would be a beat is none."""


class NoStep(KnockError):
    """What was handed in cannot be gone by."""


class NoNumber(KnockError):
    """What was handed in is no number, or no list of numbers, that was asked for."""


class NoLine(KnockError):
    """What was told is no row that is understood, or none that can be undone."""


class NoStory(KnockError):
    """Things make no story; number is the place of the first wrong one, or how many there are."""

    def __init__(self, number):
        self.number = number


class NoText(KnockError):
    """A text writes nothing that was asked for; row is the number of its first wrong row."""

    def __init__(self, row):
        self.row = row


class TooGreat(KnockError):
    """There would be many things where most are the most."""

    def __init__(self, many, most):
        self.many = many
        self.most = most
