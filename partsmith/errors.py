"""The refusals: one class for each, all of them under ScoreError alone."""


class ScoreError(ValueError):
    """Any refusal."""


class NoLength(ScoreError):
    """A text that writes no length."""


class BadScore(ScoreError):
    """A score's text with a fault, or a bar told anew with one."""

    def __init__(self, place, word):
        self.place = place
        self.word = word


class NoPlayer(ScoreError):
    """A name that is no player's."""


class NoStaff(ScoreError):
    """A name that is no staff's."""


class NoBar(ScoreError):
    """A number that is no bar's."""


class BadDeed(ScoreError):
    """A deed with a fault in a desk's text."""

    def __init__(self, place, word):
        self.place = place
        self.word = word
